/- Several texts, one behind the other: MoI, MoG, MoW, LdI, MoE, MoT. -/
import Derived.Test.YtkkjofefjepodaaRows
/- A Model of whole calls (layer 19) in plain lists: versions, sessions, and what each call answers and leaves. No dump; no condition. -/
namespace Go.Proofs.Ytkkjofefjepodaa
set_option linter.unusedVariables false

/-- A version: by: who made it (0: begin is its time); ended: who ended it (0: stop is its time, 0 none). -/
@[ext] structure VrI where
 key : Int
 val : Int
 bY : Int
 ended : Int
 start : Int
 stop : Int
 dead : Bool
deriving DecidableEq
/-- What was read. -/
@[ext] structure RdI where
 lo : Int
 hi : Int
 found : Bool
 scan : Bool
deriving DecidableEq
/-- A session's transaction; id 0: none. -/
@[ext] structure TxI where
 id : Int
 level : Int
 ops : Int
 start : Int
 wrote : List Int
 reads : List RdI
deriving DecidableEq
@[ext] structure OpI where
 kind : Int
 key : Int
 hi : Int
 val : Int
deriving DecidableEq
@[ext] structure ReI where
 e : Int
 val : Int
 pairs : List (Int × Int)
 over : Int
 reason : Int
deriving DecidableEq
@[ext] structure MoI where
 slots : Int
 limit : Int
 v : List VrI
 s : Nat → TxI
 time : Int
 made : Int
def tx0 : TxI := ⟨0, 0, 0, 0, [], []⟩
def re0 : ReI := ⟨0, 0, [], 0, 0⟩
/-- One session otherwise. -/
def putS (f : Nat → TxI) (i : Nat) (x : TxI) : Nat → TxI := fun j => if j = i then x else f j
theorem putS_self (f : Nat → TxI) (i : Nat) (x : TxI) : putS f i x i = x := if_pos rfl
theorem putS_ne (f : Nat → TxI) {i j : Nat} (x : TxI) (h : j ≠ i) : putS f i x j = f j := if_neg h
theorem putS_put (f : Nat → TxI) (i : Nat) (x y : TxI) : putS (putS f i x) i y = putS f i y := by
 funext j
 unfold putS
 by_cases e : j = i
 ·rw [if_pos e, if_pos e]
 ·rw [if_neg e, if_neg e, if_neg e]
def confI (slots limit : Int) : Bool := decide (1 ≤ slots ∧ slots ≤ 256 ∧ 1 ≤ limit ∧ limit ≤ 1099511627776)
def new0 (slots limit : Int) : MoI := ⟨slots, limit, [], fun _ => tx0, 0, 0⟩
/-- The session of a number, if it is one. -/
def sesI (s : Int) : Bool := decide (0 ≤ s ∧ s ≤ 7)
namespace MoI
def begE (m : MoI) (s level : Int) : Int :=
 if s < 0 ∨ 7 < s ∨ level < 1 ∨ 3 < level then 1 else if (m.s s.toNat).id ≠ 0 then 9 else if 2000 ≤ m.made then 65 else if m.limit ≤ m.time then 16 else 0
def beg (m : MoI) (s level : Int) : MoI :=
 if m.begE s level = 0 then { m with time := m.time + 1, made := m.made + 1, s := putS m.s s.toNat ⟨m.made + 1, level, 0, m.time + 1, [], []⟩ } else m
def begN (m : MoI) (s level : Int) : Int := if m.begE s level = 0 then m.made + 1 else 0
end MoI
/-- Whether a call may be. -/
def okI (o : OpI) : Bool :=
 if o.kind = 1 ∨ o.kind = 4 then decide (0 ≤ o.key ∧ o.key ≤ 63 ∧ o.hi = 0 ∧ o.val = 0)
 else if o.kind = 2 ∨ o.kind = 3 then decide (0 ≤ o.key ∧ o.key ≤ 63 ∧ 0 ≤ o.val ∧ o.val ≤ 65535 ∧ o.hi = 0)
 else if o.kind = 5 then decide (0 ≤ o.key ∧ o.key ≤ 63 ∧ o.key ≤ o.hi ∧ o.hi ≤ 63 ∧ o.val = 0)
 else if o.kind = 6 ∨ o.kind = 7 then decide (o.key = 0 ∧ o.hi = 0 ∧ o.val = 0)
 else false
/-- A version that the transaction itself has made, and sees. -/
def mineV (id key : Int) (v : VrI) : Bool := decide (v.key = key ∧ v.dead = false ∧ v.ended ≠ id ∧ v.bY = id)
/-- A version of committed ones that it sees. -/
def elderV (id key at' : Int) (v : VrI) : Bool := decide (v.key = key ∧ v.dead = false ∧ v.ended ≠ id ∧ v.bY = 0 ∧ v.start ≤ at' ∧ (v.ended ≠ 0 ∨ v.stop = 0 ∨ at' < v.stop))
/-- A version of a key of its own, gone or not. -/
def ownV (id key : Int) (v : VrI) : Bool := decide (v.key = key ∧ v.bY = id ∧ v.dead = false)
/-- Made or ended by one that committed behind a time. -/
def laterV (key at' : Int) (v : VrI) : Bool := decide (v.key = key ∧ v.dead = false ∧ (v.bY = 0 ∧ at' < v.start ∨ at' < v.stop))
/-- There of committed ones at a time. -/
def thereV (key at' : Int) (v : VrI) : Bool := decide (v.key = key ∧ v.dead = false ∧ v.bY = 0 ∧ v.start ≤ at' ∧ (v.stop = 0 ∨ at' < v.stop))
def seesI (v : List VrI) (id at' key : Int) : Option Nat :=
 match v.findIdx? (mineV id key) with
 | some i => some i
 | none => v.findIdx? (elderV id key at')
def valI (v : List VrI) (i : Nat) : Int := match v[i]? with | some x => x.val | none => 0
/-- The keys from lo on, n of them. -/
def keysI (lo : Int) : Nat → List Int
 | 0 => []
 | n + 1 => lo :: keysI (lo + 1) n
def pairI (v : List VrI) (id at' key : Int) : List (Int × Int) := match seesI v id at' key with | some i => [(key, valI v i)] | none => []
def scanI (v : List VrI) (id at' lo hi : Int) : List (Int × Int) := (keysI lo (hi + 1 - lo).toNat).flatMap (pairI v id at')
/-- What an aborted one leaves of a version. -/
def goneV (id : Int) (v : VrI) : VrI := { v with ended := if v.ended = id then 0 else v.ended, dead := if v.bY = id then true else v.dead }
/-- What a committed one leaves of a version. -/
def doneV (id t : Int) (v : VrI) : VrI :=
 { v with bY := if v.bY = id then 0 else v.bY, start := if v.bY = id then t else v.start, ended := if v.ended = id then 0 else v.ended, stop := if v.ended = id then t else v.stop }
/-- The versions with one of them turned. -/
def setV (v : List VrI) (i : Nat) (f : VrI → VrI) : List VrI := v.modify i f
namespace MoI
/-- Whether a key may not be written first. -/
def taken (m : MoI) (id at' key : Int) : Bool := ((List.range 8).any fun i => decide ((m.s i).id ≠ 0 ∧ (m.s i).id ≠ id ∧ key ∈ (m.s i).wrote)) || m.v.any (laterV key at')
def over (m : MoI) (s : Nat) : MoI := { m with v := m.v.map (goneV (m.s s).id), s := putS m.s s tx0 }
/-- Session s reads, keeps what it did. -/
def keepR (m : MoI) (s : Nat) (r : RdI) : MoI := { m with s := putS m.s s { m.s s with reads := (m.s s).reads ++ [r] } }
def keepW (m : MoI) (s : Nat) (key : Int) : MoI := { m with s := putS m.s s { m.s s with wrote := (m.s s).wrote ++ [key] } }
def bad (reason : Int) : ReI := ⟨14, 0, [], 4, reason⟩
/-- What a write makes of the versions. -/
def wroteV (v : List VrI) (id : Int) (o : OpI) (at' k : Option Nat) : List VrI :=
 let v1 := match at' with
  | some i => if k = some i then v else setV v i fun x => { x with ended := id }
  | none => v
 match k with
 | some j => if o.kind = 4 then setV v1 j fun x => { x with ended := id } else setV v1 j fun x => { x with ended := 0, val := o.val }
 | none => if o.kind = 4 then v1 else v1 ++ [⟨o.key, o.val, id, 0, 0, 0, false⟩]
def write (m : MoI) (s : Nat) (o : OpI) : ReI × MoI :=
 let t := m.s s
 let at' := seesI m.v t.id t.start o.key
 let mine := decide (o.key ∈ t.wrote)
 if (o.kind = 2 ∧ at' ≠ none) ∨ (o.kind ≠ 2 ∧ at' = none) then
  (⟨if at' = none then 11 else 12, 0, [], 0, 0⟩, if mine then m else m.keepR s ⟨o.key, o.key, false, false⟩)
 else if mine = false ∧ m.taken t.id t.start o.key = true then (bad 2, m.over s)
 else
  let k := m.v.findIdx? (ownV t.id o.key)
  if o.kind ≠ 4 ∧ k = none ∧ m.slots ≤ m.v.length then (bad 5, m.over s)
  else
   let m1 := if mine then m else m.keepW s o.key
   (re0, { m1 with v := wroteV m.v t.id o at' k })
/-- Whether what was read still holds. -/
def holds (m : MoI) (t : TxI) : Bool :=
 t.reads.all fun r => (decide (t.level = 2) && !r.found) || (keysI r.lo (r.hi + 1 - r.lo).toNat).all fun k => decide (m.v.findIdx? (thereV k t.start) = m.v.findIdx? (thereV k m.time))
def commit (m : MoI) (s : Nat) : ReI × MoI :=
 if m.limit ≤ m.time then (bad 6, m.over s)
 else
  let m1 := { m with time := m.time + 1 }
  let t := m.s s
  if t.level ≠ 1 ∧ m1.holds t = false then (bad 3, m1.over s)
  else (⟨0, 0, [], 3, 0⟩, { m1 with v := m.v.map (doneV t.id (m.time + 1)), s := putS m.s s tx0 })
def doE (m : MoI) (s : Int) (o : OpI) : Int :=
 if s < 0 ∨ 7 < s then 1 else if (m.s s.toNat).id = 0 ∨ okI o = false then 9 else if o.kind = 7 ∨ o.kind = 6 then 0 else if 12 ≤ (m.s s.toNat).ops then 65 else 0
def count (m : MoI) (s : Nat) : MoI := { m with s := putS m.s s { m.s s with ops := (m.s s).ops + 1 } }
def get (m : MoI) (s : Nat) (o : OpI) : ReI × MoI :=
 let t := m.s s
 let at' := seesI m.v t.id t.start o.key
 (match at' with | some i => ⟨0, valI m.v i, [], 0, 0⟩ | none => ⟨11, 0, [], 0, 0⟩, if o.key ∈ t.wrote then m else m.keepR s ⟨o.key, o.key, decide (at' ≠ none), false⟩)
def scan (m : MoI) (s : Nat) (o : OpI) : ReI × MoI := (⟨0, 0, scanI m.v (m.s s).id (m.s s).start o.key o.hi, 0, 0⟩, m.keepR s ⟨o.key, o.hi, false, true⟩)
def run (m : MoI) (s : Nat) (o : OpI) : ReI × MoI :=
 if o.kind = 7 then (⟨0, 0, [], 4, 1⟩, m.over s)
 else if o.kind = 6 then m.commit s
 else if o.kind = 1 then (m.count s).get s o
 else if o.kind = 5 then (m.count s).scan s o
 else (m.count s).write s o
def doR (m : MoI) (s : Int) (o : OpI) : ReI := if m.doE s o = 0 then (m.run s.toNat o).1 else re0
def doM (m : MoI) (s : Int) (o : OpI) : MoI := if m.doE s o = 0 then (m.run s.toNat o).2 else m
/-- The lowest begin of those that live; now if there is none. -/
def low (m : MoI) : Int := (List.range 8).foldl (fun a i => if (m.s i).id ≠ 0 then min a (m.s i).start else a) m.time
def keepV (low : Int) (v : VrI) : Bool := !(v.dead || decide (v.stop ≠ 0 ∧ v.stop ≤ low))
def collect (m : MoI) : MoI := { m with v := m.v.filter (keepV m.low) }
def collected (m : MoI) : Int := (m.v.length : Int) - ((m.v.filter (keepV m.low)).length : Int)
def pairsOf (v : List VrI) (at' key : Int) : List (Int × Int) := (v.filter (thereV key at')).map fun x => (key, x.val)
def pairs (m : MoI) (at' : Int) : List (Int × Int) := (keysI 0 64).flatMap (pairsOf m.v at')
def live (m : MoI) : List Int := ((List.range 8).filter fun i => decide ((m.s i).id ≠ 0)).map (fun i : Nat => (i : Int))
end MoI
end Go.Proofs.Ytkkjofefjepodaa
/- A Model of whole calls (layer 19) in plain lists: what it always keeps (Good), and that each call keeps it. No dump; no condition. -/
namespace Go.Proofs.Ytkkjofefjepodaa
set_option linter.unusedVariables false

/-- A session's transaction, as it always is. -/
structure SOk (made time : Int) (t : TxI) : Prop where
 id : 0 ≤ t.id ∧ t.id ≤ made
 z : t.id = 0 → t = tx0
 lv : t.id ≠ 0 → 1 ≤ t.level ∧ t.level ≤ 3 ∧ 1 ≤ t.start ∧ t.start ≤ time
 ops : 0 ≤ t.ops ∧ t.ops ≤ 12
 wr : (t.wrote.length : Int) ≤ t.ops
 rd : (t.reads.length : Int) ≤ t.ops
 rb : ∀ r ∈ t.reads, 0 ≤ r.lo ∧ r.lo ≤ r.hi ∧ r.hi ≤ 63
 wb : ∀ k ∈ t.wrote, 0 ≤ k ∧ k ≤ 63
/-- A live session of an id has written a key. -/
def Wr (s : Nat → TxI) (id key : Int) : Prop := ∃ i, i < 8 ∧ (s i).id = id ∧ key ∈ (s i).wrote
/-- A version, as it always is. -/
structure VOk (s : Nat → TxI) (made time : Int) (y : VrI) : Prop where
 by' : y.bY ≠ 0 → y.stop = 0 ∧ (y.ended = 0 ∨ y.ended = y.bY) ∧ (y.dead = false → Wr s y.bY y.key)
 en : y.ended ≠ 0 → y.dead = false ∧ y.stop = 0 ∧ Wr s y.ended y.key
 tm : y.bY = 0 → 0 ≤ y.start ∧ y.start ≤ time ∧ (y.stop = 0 ∨ (y.start ≤ y.stop ∧ y.stop ≤ time))
 ky : 0 ≤ y.key ∧ y.key ≤ 63
 vl : 0 ≤ y.val ∧ y.val ≤ 65535
 bm : 0 ≤ y.bY ∧ y.bY ≤ made
 em : 0 ≤ y.ended ∧ y.ended ≤ made
/-- Two versions of a key do not overlap. -/
def Apart (y z : VrI) : Prop := y.key = z.key → y.dead = false → z.dead = false → (y.bY = 0 → z.bY = 0 → (y.stop ≠ 0 ∧ y.stop ≤ z.start) ∨ (z.stop ≠ 0 ∧ z.stop ≤ y.start)) ∧ (y.bY ≠ 0 → y.bY ≠ z.bY)
/-- A key that a live one has written: what committed ones left of it is elder, and is over. -/
def Fst (s : Nat → TxI) (v : List VrI) : Prop := ∀ i k, i < 8 → k ∈ (s i).wrote → ∀ y ∈ v, y.key = k → y.dead = false → y.bY = 0 → y.start ≤ (s i).start ∧ y.stop ≤ (s i).start ∧ (y.ended ≠ 0 ∨ y.stop ≠ 0)
structure Good (x : MoI) : Prop where
 conf : 1 ≤ x.slots ∧ x.slots ≤ 256 ∧ 1 ≤ x.limit ∧ x.limit ≤ 1099511627776
 time : 0 ≤ x.time ∧ x.time ≤ x.limit
 made : 0 ≤ x.made ∧ x.made ≤ 2000
 len : (x.v.length : Int) ≤ x.slots
 ses : ∀ i, i < 8 → SOk x.made x.time (x.s i)
 ids : ∀ i j, i < 8 → j < 8 → (x.s i).id ≠ 0 → (x.s i).id = (x.s j).id → i = j
 ver : ∀ y ∈ x.v, VOk x.s x.made x.time y
 two : x.v.Pairwise Apart
 dis : ∀ i j k, i < 8 → j < 8 → k ∈ (x.s i).wrote → k ∈ (x.s j).wrote → i = j
 fst : Fst x.s x.v
theorem tx0_ok {made time : Int} (h : 0 ≤ made) : SOk made time tx0 :=
 ⟨⟨Int.le_refl _, h⟩, fun _ => rfl, fun e => absurd rfl e, ⟨by decide, by decide⟩, by decide, by decide, (fun r hr => by cases hr), (fun k hk => by cases hk)⟩
theorem good_new {slots limit : Int} (h : confI slots limit = true) : Good (new0 slots limit) := by
 have h := of_decide_eq_true h
 exact ⟨h, ⟨Int.le_refl _, by show (0 : Int) ≤ limit; omega⟩, ⟨by show (0 : Int) ≤ 0; omega, by show (0 : Int) ≤ 2000; omega⟩, by show (0 : Int) ≤ slots; omega, fun i hi => tx0_ok (Int.le_refl _), fun i j _ _ e => absurd rfl e, (fun y hy => by cases hy), List.Pairwise.nil, (fun i j k _ _ hk => by cases hk), (fun i k _ hk => by cases hk)⟩
section
variable {x : MoI}
/-- A session of an id that is none has written nothing. -/
theorem Good.idle (h : Good x) {i : Nat} (hi : i < 8) (e : (x.s i).id = 0) : x.s i = tx0 := (h.ses i hi).z e
theorem Good.wrote_live (h : Good x) {i : Nat} (hi : i < 8) {k : Int} (hk : k ∈ (x.s i).wrote) : (x.s i).id ≠ 0 := fun e => by rw [h.idle hi e] at hk; cases hk
theorem SOk.later {m t m' t' : Int} {s : TxI} (h : SOk m t s) (hm : m ≤ m') (ht : t ≤ t') : SOk m' t' s :=
 ⟨⟨h.id.1, Int.le_trans h.id.2 hm⟩, h.z, fun e => ⟨(h.lv e).1, (h.lv e).2.1, (h.lv e).2.2.1, Int.le_trans (h.lv e).2.2.2 ht⟩, h.ops, h.wr, h.rd, h.rb, h.wb⟩
theorem VOk.later {s s' : Nat → TxI} {m t m' t' : Int} {y : VrI} (h : VOk s m t y) (hm : m ≤ m') (ht : t ≤ t') (hs : ∀ id key, id ≠ 0 → Wr s id key → Wr s' id key) : VOk s' m' t' y :=
 ⟨fun e => ⟨(h.by' e).1, (h.by' e).2.1, fun d => hs _ _ e ((h.by' e).2.2 d)⟩, fun e => ⟨(h.en e).1, (h.en e).2.1, hs _ _ e (h.en e).2.2⟩, fun e => ⟨(h.tm e).1, Int.le_trans (h.tm e).2.1 ht, (h.tm e).2.2.imp id fun q => ⟨q.1, Int.le_trans q.2 ht⟩⟩, h.ky, h.vl, ⟨h.bm.1, Int.le_trans h.bm.2 hm⟩, ⟨h.em.1, Int.le_trans h.em.2 hm⟩⟩
theorem begE_zero {s level : Int} (h : x.begE s level = 0) : 0 ≤ s ∧ s ≤ 7 ∧ 1 ≤ level ∧ level ≤ 3 ∧ (x.s s.toNat).id = 0 ∧ x.made < 2000 ∧ x.time < x.limit := by
 unfold MoI.begE at h
 by_cases h1 : s < 0 ∨ 7 < s ∨ level < 1 ∨ 3 < level
 ·rw [if_pos h1] at h; omega
 ·rw [if_neg h1] at h
  by_cases h2 : (x.s s.toNat).id ≠ 0
  ·rw [if_pos h2] at h; omega
  ·rw [if_neg h2] at h
   by_cases h3 : 2000 ≤ x.made
   ·rw [if_pos h3] at h; omega
   ·rw [if_neg h3] at h
    by_cases h4 : x.limit ≤ x.time
    ·rw [if_pos h4] at h; omega
    ·exact ⟨by omega, by omega, by omega, by omega, Decidable.not_not.1 h2, by omega, by omega⟩
theorem good_beg (h : Good x) (s level : Int) : Good (x.beg s level) := by
 unfold MoI.beg
 by_cases hz : x.begE s level = 0
 ·rw [if_pos hz]
  obtain ⟨s0, s7, l1, l3, hid, hm, ht⟩ := begE_zero hz
  obtain ⟨n, hn⟩ : ∃ n, s.toNat = n := ⟨_, rfl⟩
  rw [hn] at hid ⊢
  have n8 : n < 8 := by omega
  have e0 := h.idle n8 hid
  obtain ⟨t, et⟩ : ∃ t : TxI, ⟨x.made + 1, level, 0, x.time + 1, [], []⟩ = t := ⟨_, rfl⟩
  rw [et]
  have tw : t.wrote = [] := by rw [← et]
  have ti : t.id = x.made + 1 := by rw [← et]
  have mm := h.made
  have wr : ∀ j k, k ∈ (putS x.s n t j).wrote → j ≠ n ∧ k ∈ (x.s j).wrote := fun j k hk => by
   by_cases e : j = n
   ·subst e; rw [putS_self, tw] at hk; cases hk
   ·rw [putS_ne _ _ e] at hk; exact ⟨e, hk⟩
  have WR : ∀ id key, id ≠ 0 → Wr x.s id key → Wr (putS x.s n t) id key := by
   rintro id key hne ⟨i, hi, e, hk⟩
   have : i ≠ n := fun q => by subst q; rw [e0] at hk; cases hk
   exact ⟨i, hi, by rw [putS_ne _ _ this]; exact e, by rw [putS_ne _ _ this]; exact hk⟩
  have tim := h.time
  refine ⟨h.conf, ⟨by show 0 ≤ x.time + 1; omega, by show x.time + 1 ≤ x.limit; omega⟩, ⟨by show 0 ≤ x.made + 1; omega, by show x.made + 1 ≤ 2000; omega⟩, h.len, fun i hi => ?_, fun i j hi hj hne e => ?_, fun y hy => (h.ver y hy).later (by show x.made ≤ x.made + 1; omega) (by show x.time ≤ x.time + 1; omega) WR, h.two, fun i j k hi hj a b => h.dis i j k hi hj (wr i k a).2 (wr j k b).2, fun i k hi hk y hy => ?_⟩
  ·show SOk (x.made + 1) (x.time + 1) (putS x.s n t i)
   by_cases e : i = n
   ·subst e
    rw [putS_self, ← et]
    exact ⟨⟨by show 0 ≤ x.made + 1; omega, Int.le_refl _⟩, fun q => by have q : x.made + 1 = 0 := q; omega, fun _ => ⟨l1, l3, by show 1 ≤ x.time + 1; omega, Int.le_refl _⟩, ⟨(by show (0 : Int) ≤ 0; decide), (by show (0 : Int) ≤ 12; decide)⟩, (by show (0 : Int) ≤ 0; decide), (by show (0 : Int) ≤ 0; decide), (fun r hr => by cases hr), (fun k hk => by cases hk)⟩
   ·rw [putS_ne _ _ e]
    exact (h.ses i hi).later (by omega) (by omega)
  ·have e : (putS x.s n t i).id = (putS x.s n t j).id := e
   have hne : (putS x.s n t i).id ≠ 0 := hne
   by_cases ei : i = n
   ·by_cases ej : j = n
    ·rw [ei, ej]
    ·rw [ei, putS_self, putS_ne _ _ ej, ti] at e
     have := (h.ses j hj).id.2
     omega
   ·by_cases ej : j = n
    ·rw [ej, putS_self, putS_ne _ _ ei, ti] at e
     have := (h.ses i hi).id.2
     omega
    ·rw [putS_ne _ _ ei, putS_ne _ _ ej] at e
     rw [putS_ne _ _ ei] at hne
     exact h.ids i j hi hj hne e
  ·obtain ⟨e, hk'⟩ := wr i k hk
   show y.key = k → y.dead = false → y.bY = 0 → y.start ≤ (putS x.s n t i).start ∧ y.stop ≤ (putS x.s n t i).start ∧ _
   rw [putS_ne _ _ e]
   exact h.fst i k hi hk' y hy
 ·rw [if_neg hz]; exact h
/-- A session's count and reads alone. -/
theorem Good.put (h : Good x) {s : Nat} (t : TxI) (e1 : t.id = (x.s s).id) (e2 : t.level = (x.s s).level) (e3 : t.start = (x.s s).start) (e4 : t.wrote = (x.s s).wrote) (hid : (x.s s).id ≠ 0) (hs : s < 8)
  (ops : 0 ≤ t.ops ∧ t.ops ≤ 12) (wr : (t.wrote.length : Int) ≤ t.ops) (rd : (t.reads.length : Int) ≤ t.ops) (rb : ∀ r ∈ t.reads, 0 ≤ r.lo ∧ r.lo ≤ r.hi ∧ r.hi ≤ 63) : Good { x with s := putS x.s s t } := by
 have fi : ∀ i, (putS x.s s t i).id = (x.s i).id := fun i => by by_cases e : i = s; subst e; rw [putS_self, e1]; rw [putS_ne _ _ e]
 have fs : ∀ i, (putS x.s s t i).start = (x.s i).start := fun i => by by_cases e : i = s; subst e; rw [putS_self, e3]; rw [putS_ne _ _ e]
 have fw : ∀ i, (putS x.s s t i).wrote = (x.s i).wrote := fun i => by by_cases e : i = s; subst e; rw [putS_self, e4]; rw [putS_ne _ _ e]
 have so := h.ses s hs
 refine ⟨h.conf, h.time, h.made, h.len, fun i hi => ?_, fun i j hi hj => ?_, fun y hy => (h.ver y hy).later (Int.le_refl _) (Int.le_refl _) ?_, h.two, fun i j k hi hj => ?_, fun i k hi => ?_⟩
 ·show SOk x.made x.time (putS x.s s t i)
  by_cases e : i = s
  ·subst e
   rw [putS_self]
   exact ⟨by rw [e1]; exact so.id, fun q => absurd (e1 ▸ q) hid, fun _ => by rw [e2, e3]; exact so.lv hid, ops, wr, rd, rb, by rw [e4]; exact so.wb⟩
  ·rw [putS_ne _ _ e]; exact h.ses i hi
 ·show (putS x.s s t i).id ≠ 0 → (putS x.s s t i).id = (putS x.s s t j).id → i = j
  rw [fi, fi]; exact h.ids i j hi hj
 ·rintro id key _ ⟨i, hi, e, hk⟩
  exact ⟨i, hi, by show (putS x.s s t i).id = id; rw [fi]; exact e, by show key ∈ (putS x.s s t i).wrote; rw [fw]; exact hk⟩
 ·show k ∈ (putS x.s s t i).wrote → k ∈ (putS x.s s t j).wrote → i = j
  rw [fw, fw]; exact h.dis i j k hi hj
 ·show k ∈ (putS x.s s t i).wrote → ∀ y ∈ x.v, y.key = k → y.dead = false → y.bY = 0 → y.start ≤ (putS x.s s t i).start ∧ y.stop ≤ (putS x.s s t i).start ∧ _
  rw [fw, fs]; exact h.fst i k hi
/-- Whose id it is. -/
theorem Good.whose (h : Good x) {s : Nat} (hs : s < 8) {id key : Int} (hid : (x.s s).id = id) (h0 : id ≠ 0) : Wr x.s id key → key ∈ (x.s s).wrote := by
 rintro ⟨i, hi, e, hk⟩
 obtain rfl : s = i := h.ids s i hs hi (by rw [hid]; exact h0) (by rw [hid, e])
 exact hk
/-- An abort. -/
theorem good_over (h : Good x) {s : Nat} (hs : s < 8) (hid : (x.s s).id ≠ 0) : Good (x.over s) := by
 obtain ⟨id, eid⟩ : ∃ id, (x.s s).id = id := ⟨_, rfl⟩
 unfold MoI.over
 rw [eid] at hid ⊢
 have w0 : ∀ j k, k ∈ (putS x.s s tx0 j).wrote → j ≠ s ∧ k ∈ (x.s j).wrote := fun j k hk => by
  by_cases e : j = s
  ·subst e; rw [putS_self] at hk; cases hk
  ·rw [putS_ne _ _ e] at hk; exact ⟨e, hk⟩
 have WR : ∀ i2 key, i2 ≠ id → Wr x.s i2 key → Wr (putS x.s s tx0) i2 key := by
  rintro i2 key hne ⟨i, hi, e, hk⟩
  have : i ≠ s := fun q => by subst q; exact hne (e.symm.trans eid)
  exact ⟨i, hi, by rw [putS_ne _ _ this]; exact e, by rw [putS_ne _ _ this]; exact hk⟩
 refine ⟨h.conf, h.time, h.made, by show ((x.v.map (goneV id)).length : Int) ≤ x.slots; rw [List.length_map]; exact h.len, fun i hi => ?_, fun i j hi hj hne e => ?_, fun y hy => ?_, ?_, fun i j k hi hj a b => h.dis i j k hi hj (w0 i k a).2 (w0 j k b).2, fun i k hi hk y hy => ?_⟩
 ·show SOk x.made x.time (putS x.s s tx0 i)
  by_cases e : i = s
  ·subst e; rw [putS_self]; exact tx0_ok h.made.1
  ·rw [putS_ne _ _ e]; exact h.ses i hi
 ·have e : (putS x.s s tx0 i).id = (putS x.s s tx0 j).id := e
  have hne : (putS x.s s tx0 i).id ≠ 0 := hne
  by_cases ei : i = s
  ·rw [ei, putS_self] at hne; exact absurd rfl hne
  ·rw [putS_ne _ _ ei] at e hne
   by_cases ej : j = s
   ·rw [ej, putS_self] at e; exact absurd e hne
   ·rw [putS_ne _ _ ej] at e; exact h.ids i j hi hj hne e
 ·have hy : y ∈ x.v.map (goneV id) := hy
  obtain ⟨a, ha, rfl⟩ := List.mem_map.1 hy
  have o := h.ver a ha
  refine ⟨fun e => ?_, fun e => ?_, o.tm, o.ky, o.vl, o.bm, ?_⟩
  ·have e : a.bY ≠ 0 := e
   obtain ⟨p1, p2, p3⟩ := o.by' e
   refine ⟨p1, ?_, fun d => ?_⟩
   ·show (if a.ended = id then (0 : Int) else a.ended) = 0 ∨ (if a.ended = id then (0 : Int) else a.ended) = a.bY
    by_cases q : a.ended = id
    ·rw [if_pos q]; exact .inl rfl
    ·rw [if_neg q]; exact p2
   ·have d : (if a.bY = id then true else a.dead) = false := d
    by_cases q : a.bY = id
    ·rw [if_pos q] at d; cases d
    ·rw [if_neg q] at d; exact WR _ _ q (p3 d)
  ·have e : (if a.ended = id then (0 : Int) else a.ended) ≠ 0 := e
   by_cases q : a.ended = id
   ·rw [if_pos q] at e; exact absurd rfl e
   ·rw [if_neg q] at e
    obtain ⟨p1, p2, p3⟩ := o.en e
    refine ⟨?_, p2, ?_⟩
    ·show (if a.bY = id then true else a.dead) = false
     by_cases b : a.bY = id
     ·rcases (o.by' (by rw [b]; exact hid)).2.1 with c | c
      ·exact absurd c e
      ·exact absurd (c.trans b) q
     ·rw [if_neg b]; exact p1
    ·show Wr _ (if a.ended = id then (0 : Int) else a.ended) a.key
     rw [if_neg q]; exact WR _ _ q p3
  ·show 0 ≤ (if a.ended = id then (0 : Int) else a.ended) ∧ (if a.ended = id then (0 : Int) else a.ended) ≤ x.made
   split
   ·exact ⟨Int.le_refl _, h.made.1⟩
   ·exact o.em
 ·show (x.v.map (goneV id)).Pairwise Apart
  refine List.pairwise_map.2 (h.two.imp ?_)
  intro a b hab e da db
  have da : (if a.bY = id then true else a.dead) = false := da
  have db : (if b.bY = id then true else b.dead) = false := db
  by_cases qa : a.bY = id
  ·rw [if_pos qa] at da; cases da
  ·by_cases qb : b.bY = id
   ·rw [if_pos qb] at db; cases db
   ·rw [if_neg qa] at da
    rw [if_neg qb] at db
    exact hab e da db
 ·obtain ⟨hne, hk'⟩ := w0 i k hk
  have hy : y ∈ x.v.map (goneV id) := hy
  obtain ⟨a, ha, rfl⟩ := List.mem_map.1 hy
  intro ek d b0
  show a.start ≤ (putS x.s s tx0 i).start ∧ a.stop ≤ (putS x.s s tx0 i).start ∧ ((if a.ended = id then (0 : Int) else a.ended) ≠ 0 ∨ a.stop ≠ 0)
  rw [putS_ne _ _ hne]
  have b0 : a.bY = 0 := b0
  have d : (if a.bY = id then true else a.dead) = false := d
  rw [if_neg (by rw [b0]; exact fun q => hid q.symm)] at d
  obtain ⟨p1, p2, p3⟩ := h.fst i k hi hk' a ha ek d b0
  refine ⟨p1, p2, ?_⟩
  by_cases q : a.ended = id
  ·exfalso
   have := h.whose hs eid hid (q ▸ (h.ver a ha).en (by rw [q]; exact hid) |>.2.2)
   exact hne (h.dis i s k hi hs hk' (ek ▸ this))
  ·rw [if_neg q]; exact p3
theorem good_tick (h : Good x) (ht : x.time < x.limit) : Good { x with time := x.time + 1 } := by
 have hx := h.time
 exact ⟨h.conf, ⟨by show 0 ≤ x.time + 1; omega, by show x.time + 1 ≤ x.limit; omega⟩, h.made, h.len, fun i hi => (h.ses i hi).later (Int.le_refl _) (by show x.time ≤ x.time + 1; omega), h.ids, fun y hy => (h.ver y hy).later (Int.le_refl _) (by show x.time ≤ x.time + 1; omega) (fun _ _ _ w => w), h.two, h.dis, h.fst⟩
/-- A committed version of a key that a live one has written is over, or is ended by that one. -/
theorem Good.over_by (h : Good x) {s : Nat} (hs : s < 8) {id : Int} (hid : (x.s s).id = id) (h0 : id ≠ 0) {y : VrI} (hy : y ∈ x.v) (hk : y.key ∈ (x.s s).wrote) (hd : y.dead = false) (hb : y.bY = 0) : y.ended = id ∨ (y.ended = 0 ∧ y.stop ≠ 0 ∧ y.stop ≤ x.time) := by
 obtain ⟨p1, p2, p3⟩ := h.fst s y.key hs hk y hy rfl hd hb
 have o := h.ver y hy
 have lv := (h.ses s hs).lv (by rw [hid]; exact h0)
 by_cases q : y.ended = 0
 ·exact .inr ⟨q, p3.resolve_left (fun e => e q), by omega⟩
 ·obtain ⟨_, _, i, hi, e, hk'⟩ := o.en q
  obtain rfl := h.dis i s y.key hi hs hk' hk
  exact .inl (e.symm.trans hid)
theorem apart_done (h : Good x) {s : Nat} (hs : s < 8) {id : Int} (hid : (x.s s).id = id) (h0 : id ≠ 0) {a b : VrI} (ha : a ∈ x.v) (hb : b ∈ x.v) (hab : Apart a b) : Apart (doneV id (x.time + 1) a) (doneV id (x.time + 1) b) := by
 have oa := h.ver a ha
 have ob := h.ver b hb
 have tt := h.time.1
 intro e da db
 have e : a.key = b.key := e
 have da : a.dead = false := da
 have db : b.dead = false := db
 obtain ⟨q1, q2⟩ := hab e da db
 have new : ∀ y ∈ x.v, y.bY = 0 → y.dead = false → y.key ∈ (x.s s).wrote → (if y.ended = id then x.time + 1 else y.stop) ≠ 0 ∧ (if y.ended = id then x.time + 1 else y.stop) ≤ x.time + 1 := fun y hy b0 d hk => by
  rcases h.over_by hs hid h0 hy hk d b0 with q | ⟨q, r1, r2⟩
  ·rw [if_pos q]; omega
  ·rw [if_neg (by rw [q]; exact fun c => h0 c.symm)]; exact ⟨r1, by omega⟩
 have keep : ∀ y ∈ x.v, y.stop ≠ 0 → (if y.ended = id then x.time + 1 else y.stop) = y.stop := fun y hy hst => by
  by_cases q : y.ended = id
  ·exact absurd ((h.ver y hy).en (by rw [q]; exact h0)).2.1 hst
  ·rw [if_neg q]
 have ra : (doneV id (x.time + 1) a).bY = if a.bY = id then 0 else a.bY := rfl
 have rb : (doneV id (x.time + 1) b).bY = if b.bY = id then 0 else b.bY := rfl
 refine ⟨fun a0 b0 => ?_, fun a0 => ?_⟩
 ·rw [ra] at a0
  rw [rb] at b0
  show ((if a.ended = id then x.time + 1 else a.stop) ≠ 0 ∧ (if a.ended = id then x.time + 1 else a.stop) ≤ (if b.bY = id then x.time + 1 else b.start)) ∨ ((if b.ended = id then x.time + 1 else b.stop) ≠ 0 ∧ (if b.ended = id then x.time + 1 else b.stop) ≤ (if a.bY = id then x.time + 1 else a.start))
  by_cases ia : a.bY = id
  ·by_cases ib : b.bY = id
   ·exact absurd (ia.trans ib.symm) (q2 (by rw [ia]; exact h0))
   ·rw [if_neg ib] at b0
    have hk : b.key ∈ (x.s s).wrote := by
     rw [← e]; exact h.whose hs hid h0 (ia ▸ (oa.by' (by rw [ia]; exact h0)).2.2 da)
    right
    rw [if_pos ia]
    exact new b hb b0 db hk
  ·rw [if_neg ia] at a0
   by_cases ib : b.bY = id
   ·have hk : a.key ∈ (x.s s).wrote := by
     rw [e]; exact h.whose hs hid h0 (ib ▸ (ob.by' (by rw [ib]; exact h0)).2.2 db)
    left
    rw [if_pos ib]
    exact new a ha a0 da hk
   ·rw [if_neg ib] at b0
    rw [if_neg ia, if_neg ib]
    rcases q1 a0 b0 with ⟨c1, c2⟩ | ⟨c1, c2⟩
    ·left; rw [keep a ha c1]; exact ⟨c1, c2⟩
    ·right; rw [keep b hb c1]; exact ⟨c1, c2⟩
 ·rw [ra] at a0 ⊢
  rw [rb]
  by_cases ia : a.bY = id
  ·rw [if_pos ia] at a0; exact absurd rfl a0
  ·rw [if_neg ia] at a0 ⊢
   by_cases ib : b.bY = id
   ·rw [if_pos ib]; exact a0
   ·rw [if_neg ib]; exact q2 a0
/-- A commit that goes through. -/
theorem good_done (h : Good x) {s : Nat} (hs : s < 8) (h0 : (x.s s).id ≠ 0) (ht : x.time < x.limit) : Good { x with time := x.time + 1, v := x.v.map (doneV (x.s s).id (x.time + 1)), s := putS x.s s tx0 } := by
 obtain ⟨id, hid⟩ : ∃ id, (x.s s).id = id := ⟨_, rfl⟩
 rw [hid] at h0 ⊢
 have tt := h.time
 have w0 : ∀ j k, k ∈ (putS x.s s tx0 j).wrote → j ≠ s ∧ k ∈ (x.s j).wrote := fun j k hk => by
  by_cases e : j = s
  ·subst e; rw [putS_self] at hk; cases hk
  ·rw [putS_ne _ _ e] at hk; exact ⟨e, hk⟩
 have WR : ∀ i2 key, i2 ≠ id → Wr x.s i2 key → Wr (putS x.s s tx0) i2 key := by
  rintro i2 key hne ⟨i, hi, e, hk⟩
  have : i ≠ s := fun q => by subst q; exact hne (e.symm.trans hid)
  exact ⟨i, hi, by rw [putS_ne _ _ this]; exact e, by rw [putS_ne _ _ this]; exact hk⟩
 refine ⟨h.conf, ⟨by show 0 ≤ x.time + 1; omega, by show x.time + 1 ≤ x.limit; omega⟩, h.made, by show ((x.v.map (doneV id (x.time + 1))).length : Int) ≤ x.slots; rw [List.length_map]; exact h.len, fun i hi => ?_, fun i j hi hj hne e => ?_, fun y hy => ?_, ?_, fun i j k hi hj a b => h.dis i j k hi hj (w0 i k a).2 (w0 j k b).2, fun i k hi hk y hy => ?_⟩
 ·show SOk x.made (x.time + 1) (putS x.s s tx0 i)
  by_cases e : i = s
  ·subst e; rw [putS_self]; exact tx0_ok h.made.1
  ·rw [putS_ne _ _ e]; exact (h.ses i hi).later (Int.le_refl _) (by omega)
 ·have e : (putS x.s s tx0 i).id = (putS x.s s tx0 j).id := e
  have hne : (putS x.s s tx0 i).id ≠ 0 := hne
  by_cases ei : i = s
  ·rw [ei, putS_self] at hne; exact absurd rfl hne
  ·rw [putS_ne _ _ ei] at e hne
   by_cases ej : j = s
   ·rw [ej, putS_self] at e; exact absurd e hne
   ·rw [putS_ne _ _ ej] at e; exact h.ids i j hi hj hne e
 ·have hy : y ∈ x.v.map (doneV id (x.time + 1)) := hy
  obtain ⟨a, ha, rfl⟩ := List.mem_map.1 hy
  have o := h.ver a ha
  refine ⟨fun e => ?_, fun e => ?_, fun e => ?_, o.ky, o.vl, ?_, ?_⟩
  ·have e : (if a.bY = id then (0 : Int) else a.bY) ≠ 0 := e
   by_cases q : a.bY = id
   ·rw [if_pos q] at e; exact absurd rfl e
   ·rw [if_neg q] at e
    obtain ⟨p1, p2, p3⟩ := o.by' e
    have ne : a.ended ≠ id := fun c => by
     rcases p2 with r | r
     ·exact h0 (c.symm.trans r)
     ·exact q (r.symm.trans c)
    refine ⟨?_, ?_, fun d => ?_⟩
    ·show (if a.ended = id then x.time + 1 else a.stop) = 0
     rw [if_neg ne]; exact p1
    ·show (if a.ended = id then (0 : Int) else a.ended) = 0 ∨ (if a.ended = id then (0 : Int) else a.ended) = (if a.bY = id then (0 : Int) else a.bY)
     rw [if_neg ne, if_neg q]; exact p2
    ·show Wr _ (if a.bY = id then (0 : Int) else a.bY) a.key
     rw [if_neg q]; exact WR _ _ q (p3 d)
  ·have e : (if a.ended = id then (0 : Int) else a.ended) ≠ 0 := e
   by_cases q : a.ended = id
   ·rw [if_pos q] at e; exact absurd rfl e
   ·rw [if_neg q] at e
    obtain ⟨p1, p2, p3⟩ := o.en e
    refine ⟨p1, ?_, ?_⟩
    ·show (if a.ended = id then x.time + 1 else a.stop) = 0
     rw [if_neg q]; exact p2
    ·show Wr _ (if a.ended = id then (0 : Int) else a.ended) a.key
     rw [if_neg q]; exact WR _ _ q p3
  ·have e : (if a.bY = id then (0 : Int) else a.bY) = 0 := e
   show 0 ≤ (if a.bY = id then x.time + 1 else a.start) ∧ (if a.bY = id then x.time + 1 else a.start) ≤ x.time + 1 ∧ ((if a.ended = id then x.time + 1 else a.stop) = 0 ∨ ((if a.bY = id then x.time + 1 else a.start) ≤ (if a.ended = id then x.time + 1 else a.stop) ∧ (if a.ended = id then x.time + 1 else a.stop) ≤ x.time + 1))
   by_cases q : a.bY = id
   ·rw [if_pos q]
    have p1 := (o.by' (by rw [q]; exact h0)).1
    split
    ·omega
    ·omega
   ·rw [if_neg q] at e ⊢
    obtain ⟨p1, p2, p3⟩ := o.tm e
    split
    ·omega
    ·omega
  ·show 0 ≤ (if a.bY = id then (0 : Int) else a.bY) ∧ (if a.bY = id then (0 : Int) else a.bY) ≤ x.made
   split
   ·exact ⟨Int.le_refl _, h.made.1⟩
   ·exact o.bm
  ·show 0 ≤ (if a.ended = id then (0 : Int) else a.ended) ∧ (if a.ended = id then (0 : Int) else a.ended) ≤ x.made
   split
   ·exact ⟨Int.le_refl _, h.made.1⟩
   ·exact o.em
 ·show (x.v.map (doneV id (x.time + 1))).Pairwise Apart
  exact List.pairwise_map.2 (h.two.imp_of_mem fun ha hb hab => apart_done h hs hid h0 ha hb hab)
 ·obtain ⟨hne, hk'⟩ := w0 i k hk
  have hy : y ∈ x.v.map (doneV id (x.time + 1)) := hy
  obtain ⟨a, ha, rfl⟩ := List.mem_map.1 hy
  intro ek d b0
  have d : a.dead = false := d
  have ek : a.key = k := ek
  have nw : ∀ z, Wr x.s z a.key → z ≠ id := fun z hz c => hne (h.dis i s k hi hs hk' (ek ▸ h.whose hs hid h0 (c ▸ hz)))
  have o := h.ver a ha
  have nb : a.bY ≠ id := fun c => nw a.bY ((o.by' (by rw [c]; exact h0)).2.2 d) c
  have nE : a.ended ≠ id := fun c => nw a.ended (o.en (by rw [c]; exact h0)).2.2 c
  have b0 : (if a.bY = id then (0 : Int) else a.bY) = 0 := b0
  rw [if_neg nb] at b0
  show (if a.bY = id then x.time + 1 else a.start) ≤ (putS x.s s tx0 i).start ∧ (if a.ended = id then x.time + 1 else a.stop) ≤ (putS x.s s tx0 i).start ∧ ((if a.ended = id then (0 : Int) else a.ended) ≠ 0 ∨ (if a.ended = id then x.time + 1 else a.stop) ≠ 0)
  rw [putS_ne _ _ hne, if_neg nb, if_neg nE, if_neg nE]
  exact h.fst i k hi hk' a ha ek d b0
theorem good_commit (h : Good x) {s : Nat} (hs : s < 8) (h0 : (x.s s).id ≠ 0) : Good (x.commit s).2 := by
 unfold MoI.commit
 by_cases hl : x.limit ≤ x.time
 ·rw [if_pos hl]; exact good_over h hs h0
 ·rw [if_neg hl]
  have ht : x.time < x.limit := by omega
  simp only
  split
  ·exact good_over (good_tick h ht) hs h0
  ·exact good_done h hs h0 ht
theorem good_collect (h : Good x) : Good x.collect := by
 have sub : (x.v.filter (MoI.keepV x.low)).Sublist x.v := List.filter_sublist
 refine ⟨h.conf, h.time, h.made, ?_, h.ses, h.ids, fun y hy => h.ver y (sub.subset hy), h.two.sublist sub, h.dis, fun i k hi hk y hy => h.fst i k hi hk y (sub.subset hy)⟩
 have := sub.length_le
 have := h.len
 show ((x.v.filter (MoI.keepV x.low)).length : Int) ≤ x.slots
 omega
end
end Go.Proofs.Ytkkjofefjepodaa
/- A Model of whole calls (layer 19) in plain lists: a write keeps what a Model always keeps; each call does. No dump; no condition. -/
namespace Go.Proofs.Ytkkjofefjepodaa
set_option linter.unusedVariables false

/-- What Apart speaks of. -/
def coreV (y : VrI) : Int × Bool × Int × Int × Int := (y.key, y.dead, y.bY, y.start, y.stop)
def ApartC (y z : Int × Bool × Int × Int × Int) : Prop := y.1 = z.1 → y.2.1 = false → z.2.1 = false → (y.2.2.1 = 0 → z.2.2.1 = 0 → (y.2.2.2.2 ≠ 0 ∧ y.2.2.2.2 ≤ z.2.2.2.1) ∨ (z.2.2.2.2 ≠ 0 ∧ z.2.2.2.2 ≤ y.2.2.2.1)) ∧ (y.2.2.1 ≠ 0 → y.2.2.1 ≠ z.2.2.1)
theorem apart_core (v : List VrI) : v.Pairwise Apart ↔ (v.map coreV).Pairwise ApartC := by
 rw [List.pairwise_map]
 exact Iff.rfl
theorem core_modify (v : List VrI) (i : Nat) (f : VrI → VrI) (hf : ∀ y, coreV (f y) = coreV y) : (v.modify i f).map coreV = v.map coreV := by
 apply List.ext_getElem?
 intro j
 rw [List.getElem?_map, List.getElem?_map, List.getElem?_modify]
 cases v[j]? with
 | none => rfl
 | some y => by_cases e : i = j <;> simp [e, hf]
theorem mem_modify {v : List VrI} {i : Nat} {f : VrI → VrI} {y : VrI} (h : y ∈ v.modify i f) : (∃ j, j ≠ i ∧ v[j]? = some y) ∨ ∃ a, v[i]? = some a ∧ y = f a := by
 obtain ⟨j, hj⟩ := List.mem_iff_getElem?.1 h
 rw [List.getElem?_modify] at hj
 by_cases e : i = j
 ·subst e
  right
  cases hv : v[i]? with
  | none => rw [hv] at hj; cases hj
  | some a => rw [hv] at hj; simp at hj; exact ⟨a, rfl, hj.symm⟩
 ·left
  refine ⟨j, fun q => e q.symm, ?_⟩
  cases hv : v[j]? with
  | none => rw [hv] at hj; cases hj
  | some a => rw [hv] at hj; simp [e] at hj; rw [hj]
theorem Apart.symm {y z : VrI} (h : Apart y z) : Apart z y := fun e d d' => by
 obtain ⟨p, q⟩ := h e.symm d' d
 refine ⟨fun a b => (p b a).symm, fun a c => ?_⟩
 by_cases b : y.bY = 0
 ·rw [b] at c; exact a c
 ·exact q b c.symm
theorem apart_at {v : List VrI} (h : v.Pairwise Apart) {i j : Nat} {y z : VrI} (hi : v[i]? = some y) (hj : v[j]? = some z) (hne : i ≠ j) : Apart y z := by
 obtain ⟨li, ei⟩ := List.getElem?_eq_some_iff.1 hi
 obtain ⟨lj, ej⟩ := List.getElem?_eq_some_iff.1 hj
 have := List.pairwise_iff_getElem.1 h
 rcases Nat.lt_or_gt_of_ne hne with q | q
 ·have := this i j li lj q
  rwa [ei, ej] at this
 ·have := this j i lj li q
  rw [ei, ej] at this
  exact this.symm
section
variable {x : MoI}
/-- What a session sees of a key. -/
theorem sees_cases {v : List VrI} {id at' key : Int} {i : Nat} (h : seesI v id at' key = some i) : ∃ y, v[i]? = some y ∧ (mineV id key y = true ∨ elderV id key at' y = true) := by
  unfold seesI at h
  cases hm : v.findIdx? (mineV id key) with
  | some j =>
    rw [hm] at h
    cases h
    obtain ⟨lt, p, _⟩ := List.findIdx?_eq_some_iff_getElem.1 hm
    exact ⟨v[i], List.getElem?_eq_getElem lt, .inl p⟩
  | none =>
    rw [hm] at h
    obtain ⟨lt, p, _⟩ := List.findIdx?_eq_some_iff_getElem.1 h
    exact ⟨v[i], List.getElem?_eq_getElem lt, .inr p⟩
theorem sees_none {v : List VrI} {id at' key : Int} (h : seesI v id at' key = none) : (∀ y ∈ v, mineV id key y = false) ∧ ∀ y ∈ v, elderV id key at' y = false := by
  unfold seesI at h
  cases hm : v.findIdx? (mineV id key) with
  | some j => rw [hm] at h; cases h
  | none =>
    rw [hm] at h
    exact ⟨List.findIdx?_eq_none_iff.1 hm, List.findIdx?_eq_none_iff.1 h⟩
theorem mine_iff {id key : Int} {y : VrI} : mineV id key y = true ↔ y.key = key ∧ y.dead = false ∧ y.ended ≠ id ∧ y.bY = id := by unfold mineV; simp
theorem elder_iff {id key at' : Int} {y : VrI} : elderV id key at' y = true ↔ y.key = key ∧ y.dead = false ∧ y.ended ≠ id ∧ y.bY = 0 ∧ y.start ≤ at' ∧ (y.ended ≠ 0 ∨ y.stop = 0 ∨ at' < y.stop) := by unfold elderV; simp
theorem own_iff {id key : Int} {y : VrI} : ownV id key y = true ↔ y.key = key ∧ y.bY = id ∧ y.dead = false := by unfold ownV; simp
theorem later_iff {key at' : Int} {y : VrI} : laterV key at' y = true ↔ y.key = key ∧ y.dead = false ∧ (y.bY = 0 ∧ at' < y.start ∨ at' < y.stop) := by unfold laterV; simp
theorem there_iff {key at' : Int} {y : VrI} : thereV key at' y = true ↔ y.key = key ∧ y.dead = false ∧ y.bY = 0 ∧ y.start ≤ at' ∧ (y.stop = 0 ∨ at' < y.stop) := by unfold thereV; simp
/-- A key that was not written has no version of one's own. -/
theorem Good.own_none (h : Good x) {s : Nat} (hs : s < 8) (h0 : (x.s s).id ≠ 0) {key : Int} (hk : key ∉ (x.s s).wrote) : x.v.findIdx? (ownV (x.s s).id key) = none := by
  refine List.findIdx?_eq_none_iff.2 fun y hy => ?_
  cases q : ownV (x.s s).id key y with
  | false => rfl
  | true =>
    obtain ⟨e, b, d⟩ := own_iff.1 q
    have := ((h.ver y hy).by' (by rw [b]; exact h0)).2.2 d
    rw [b, e] at this
    exact absurd (h.whose hs rfl h0 this) hk
/-- A key that was written has no elder version that is seen. -/
theorem Good.no_elder (h : Good x) {s : Nat} (hs : s < 8) (h0 : (x.s s).id ≠ 0) {key : Int} (hk : key ∈ (x.s s).wrote) {y : VrI} (hy : y ∈ x.v) : elderV (x.s s).id key (x.s s).start y = false := by
  cases q : elderV (x.s s).id key (x.s s).start y with
  | false => rfl
  | true =>
    obtain ⟨e, d, n, b, st, p⟩ := elder_iff.1 q
    obtain ⟨p1, p2, p3⟩ := h.fst s key hs hk y hy e d b
    rcases h.over_by hs rfl h0 hy (by rw [e]; exact hk) d b with c | ⟨c1, c2, c3⟩
    · exact absurd c n
    · rcases p with c | c | c
      · exact absurd c1 c
      · exact absurd c c2
      · omega
/-- What one sees of a key that one wrote is one's own. -/
theorem Good.own_seen (h : Good x) {s : Nat} (hs : s < 8) (h0 : (x.s s).id ≠ 0) {key : Int} (hk : key ∈ (x.s s).wrote) {i : Nat} (ha : seesI x.v (x.s s).id (x.s s).start key = some i) : x.v.findIdx? (ownV (x.s s).id key) = some i := by
  obtain ⟨y, hi, hy⟩ := sees_cases ha
  have hm := List.mem_of_getElem? hi
  rcases hy with hy | hy
  · obtain ⟨e, d, n, b⟩ := mine_iff.1 hy
    cases ho : x.v.findIdx? (ownV (x.s s).id key) with
    | none => exact absurd (own_iff.2 ⟨e, b, d⟩) (by rw [List.findIdx?_eq_none_iff.1 ho y hm]; simp)
    | some j =>
      obtain ⟨lt, p, _⟩ := List.findIdx?_eq_some_iff_getElem.1 ho
      obtain ⟨e2, b2, d2⟩ := own_iff.1 p
      by_cases q : i = j
      · rw [q]
      · have := apart_at h.two hi (List.getElem?_eq_getElem lt) q (e.trans e2.symm) d d2
        exact absurd (b.trans b2.symm) (this.2 (by rw [b]; exact h0))
  · rw [h.no_elder hs h0 hk hm] at hy; cases hy
/-- A version that is seen. -/
theorem Good.seen_at (h : Good x) {s : Nat} (hs : s < 8) (h0 : (x.s s).id ≠ 0) {key : Int} (hk : key ∉ (x.s s).wrote) {i : Nat} (ha : seesI x.v (x.s s).id (x.s s).start key = some i) : ∃ y, x.v[i]? = some y ∧ elderV (x.s s).id key (x.s s).start y = true := by
 obtain ⟨y, hi, hy⟩ := sees_cases ha
 refine ⟨y, hi, hy.resolve_left fun q => ?_⟩
 obtain ⟨e, d, n, b⟩ := mine_iff.1 q
 have := List.findIdx?_eq_none_iff.1 (h.own_none hs h0 hk) y (List.mem_of_getElem? hi)
 rw [own_iff.2 ⟨e, b, d⟩] at this
 cases this
/-- A write that goes through, whatever it makes of the versions. -/
theorem Good.wrote (h : Good x) {s : Nat} (hs : s < 8) (h0 : (x.s s).id ≠ 0) {key : Int} (k0 : 0 ≤ key ∧ key ≤ 63) (t : TxI) (e1 : t.id = (x.s s).id) (e2 : t.level = (x.s s).level) (e3 : t.start = (x.s s).start) (hw : ∀ k, k ∈ t.wrote ↔ k ∈ (x.s s).wrote ∨ k = key)
  (ops : 0 ≤ t.ops ∧ t.ops ≤ 12) (wr : (t.wrote.length : Int) ≤ t.ops) (rd : (t.reads.length : Int) ≤ t.ops) (rb : ∀ r ∈ t.reads, 0 ≤ r.lo ∧ r.lo ≤ r.hi ∧ r.hi ≤ 63)
  (hd : ∀ i, i < 8 → key ∈ (x.s i).wrote → i = s) (v : List VrI) (len : (v.length : Int) ≤ x.slots) (two : v.Pairwise Apart)
  (ver : ∀ y ∈ v, (y ∈ x.v) ∨ VOk (putS x.s s t) x.made x.time y)
  (fo : ∀ y ∈ v, y.key ≠ key → y.dead = false → y.bY = 0 → ∃ a ∈ x.v, a.key = y.key ∧ a.dead = false ∧ a.bY = 0 ∧ a.start = y.start ∧ a.stop = y.stop ∧ a.ended = y.ended)
  (fk : ∀ y ∈ v, y.key = key → y.dead = false → y.bY = 0 → y.start ≤ t.start ∧ y.stop ≤ t.start ∧ (y.ended ≠ 0 ∨ y.stop ≠ 0)) :
  Good { x with s := putS x.s s t, v := v } := by
 have fi : ∀ i, (putS x.s s t i).id = (x.s i).id := fun i => by by_cases e : i = s; subst e; rw [putS_self, e1]; rw [putS_ne _ _ e]
 have fs : ∀ i, (putS x.s s t i).start = (x.s i).start := fun i => by by_cases e : i = s; subst e; rw [putS_self, e3]; rw [putS_ne _ _ e]
 have fw : ∀ i k, k ∈ (putS x.s s t i).wrote ↔ k ∈ (x.s i).wrote ∨ (i = s ∧ k = key) := fun i k => by
  by_cases e : i = s
  ·subst e; rw [putS_self, hw]; simp
  ·rw [putS_ne _ _ e]; simp [e]
 have so := h.ses s hs
 have WR : ∀ id key, id ≠ 0 → Wr x.s id key → Wr (putS x.s s t) id key := by
  rintro id key _ ⟨i, hi, e, hk⟩
  exact ⟨i, hi, by rw [fi]; exact e, (fw i key).2 (.inl hk)⟩
 refine ⟨h.conf, h.time, h.made, len, fun i hi => ?_, fun i j hi hj => ?_, fun y hy => ?_, two, fun i j k hi hj a b => ?_, fun i k hi hk y hy ek d b0 => ?_⟩
 ·show SOk x.made x.time (putS x.s s t i)
  by_cases e : i = s
  ·subst e
   rw [putS_self]
   exact ⟨by rw [e1]; exact so.id, fun q => absurd (e1 ▸ q) h0, fun _ => by rw [e2, e3]; exact so.lv h0, ops, wr, rd, rb, fun k hk => by
    rcases (hw k).1 hk with q | q
    ·exact so.wb k q
    ·rw [q]; exact k0⟩
  ·rw [putS_ne _ _ e]; exact h.ses i hi
 ·show (putS x.s s t i).id ≠ 0 → (putS x.s s t i).id = (putS x.s s t j).id → i = j
  rw [fi, fi]; exact h.ids i j hi hj
 ·rcases ver y hy with q | q
  ·exact (h.ver y q).later (Int.le_refl _) (Int.le_refl _) WR
  ·exact q
 ·rcases (fw i k).1 a with a | ⟨a, a'⟩
  ·rcases (fw j k).1 b with b | ⟨b, b'⟩
   ·exact h.dis i j k hi hj a b
   ·rw [b' ] at a; rw [b]; exact hd i hi a
  ·rcases (fw j k).1 b with b | ⟨b, b'⟩
   ·rw [a'] at b; rw [a]; exact (hd j hj b).symm
   ·rw [a, b]
 ·show y.start ≤ (putS x.s s t i).start ∧ y.stop ≤ (putS x.s s t i).start ∧ _
  by_cases q : k = key
  ·obtain rfl : i = s := by
    rcases (fw i k).1 hk with c | ⟨c, _⟩
    ·exact hd i hi (q ▸ c)
    ·exact c
   rw [putS_self]
   exact fk y hy (ek.trans q) d b0
  ·rw [fs]
   have hk' : k ∈ (x.s i).wrote := ((fw i k).1 hk).resolve_right (fun c => q c.2)
   obtain ⟨a, ha, ak, ad, ab, a1, a2, a3⟩ := fo y hy (by rw [ek]; exact q) d b0
   have := h.fst i k hi hk' a ha (ak.trans ek) ad ab
   rw [a1, a2, a3] at this
   exact this
theorem taken_false {m : MoI} {id at' key : Int} (h : m.taken id at' key = false) : (∀ i, i < 8 → (m.s i).id ≠ 0 → (m.s i).id ≠ id → key ∉ (m.s i).wrote) ∧ ∀ y ∈ m.v, laterV key at' y = false := by
 unfold MoI.taken at h
 rw [Bool.or_eq_false_iff] at h
 refine ⟨fun i hi a b c => ?_, fun y hy => by have := List.any_eq_false.1 h.2 y hy; simpa using this⟩
 have := List.any_eq_false.1 h.1 i (List.mem_range.2 hi)
 simp [a, b, c] at this
/-- What a first write finds of a key. -/
theorem Good.free (h : Good x) {s : Nat} (hs : s < 8) (h0 : (x.s s).id ≠ 0) {key : Int} (hk : key ∉ (x.s s).wrote) (ht : x.taken (x.s s).id (x.s s).start key = false) :
  (∀ i, i < 8 → key ∉ (x.s i).wrote) ∧ ∀ y ∈ x.v, y.key = key → y.dead = false → y.bY = 0 ∧ y.ended = 0 ∧ y.start ≤ (x.s s).start ∧ y.stop ≤ (x.s s).start := by
 obtain ⟨t1, t2⟩ := taken_false ht
 have no : ∀ i, i < 8 → key ∉ (x.s i).wrote := fun i hi hc => by
  have l := h.wrote_live hi hc
  by_cases e : (x.s i).id = (x.s s).id
  ·obtain rfl := h.ids i s hi hs l e; exact hk hc
  ·exact t1 i hi l e hc
 have nw : ∀ id, ¬ Wr x.s id key := fun id ⟨i, hi, _, hc⟩ => no i hi hc
 refine ⟨no, fun y hy e d => ?_⟩
 have o := h.ver y hy
 have b0 : y.bY = 0 := Decidable.byContradiction fun b => nw _ (e ▸ (o.by' b).2.2 d)
 have e0 : y.ended = 0 := Decidable.byContradiction fun b => nw _ (e ▸ (o.en b).2.2)
 have l := t2 y hy
 have : ¬ (y.key = key ∧ y.dead = false ∧ (y.bY = 0 ∧ (x.s s).start < y.start ∨ (x.s s).start < y.stop)) := fun c => by rw [later_iff.2 c] at l; cases l
 refine ⟨b0, e0, ?_, ?_⟩
 ·exact Decidable.byContradiction fun c => this ⟨e, d, .inl ⟨b0, by omega⟩⟩
 ·exact Decidable.byContradiction fun c => this ⟨e, d, .inr (by omega)⟩
/-- The counted state, and a session that wrote. -/
def wroteT (t : TxI) (key : Int) : TxI := { t with ops := t.ops + 1, wrote := if key ∈ t.wrote then t.wrote else t.wrote ++ [key] }
theorem wroteT_mem (t : TxI) (key k : Int) : k ∈ (wroteT t key).wrote ↔ k ∈ t.wrote ∨ k = key := by
 unfold wroteT
 simp only
 by_cases h : key ∈ t.wrote
 ·rw [if_pos h]
  constructor
  ·exact .inl
  ·rintro (q | q)
   ·exact q
   ·rw [q]; exact h
 ·rw [if_neg h, List.mem_append]; simp
theorem wroteT_len (t : TxI) (key : Int) (h : (t.wrote.length : Int) ≤ t.ops) : ((wroteT t key).wrote.length : Int) ≤ (wroteT t key).ops := by
 unfold wroteT
 simp only
 by_cases hk : key ∈ t.wrote
 ·rw [if_pos hk]; omega
 ·rw [if_neg hk, List.length_append]; simp; omega
/-- A new version. -/
def newV (key val id : Int) : VrI := ⟨key, val, id, 0, 0, 0, false⟩
theorem newV_ok {s : Nat → TxI} {made time key val id : Int} (hk : 0 ≤ key ∧ key ≤ 63) (hv : 0 ≤ val ∧ val ≤ 65535) (hi : 0 ≤ id ∧ id ≤ made) (hm : 0 ≤ made) (ht : 0 ≤ time) (hw : Wr s id key) : VOk s made time (newV key val id) :=
 ⟨fun _ => ⟨rfl, .inl rfl, fun _ => hw⟩, fun e => absurd rfl e, fun _ => ⟨Int.le_refl _, ht, .inl rfl⟩, hk, hv, hi, ⟨Int.le_refl _, hm⟩⟩
theorem two_new {v : List VrI} {key val id : Int} (h : v.Pairwise Apart) (h0 : id ≠ 0) (ho : ∀ y ∈ v, ¬ (y.key = key ∧ y.bY = id ∧ y.dead = false)) : (v ++ [newV key val id]).Pairwise Apart := by
 refine List.pairwise_append.2 ⟨h, List.pairwise_singleton _ _, fun a ha b hb => ?_⟩
 rw [List.mem_singleton] at hb
 subst hb
 intro e da _
 refine ⟨fun _ c => absurd c h0, fun b0 c => ho a ha ⟨e, c, da⟩⟩
section
variable {s : Nat} (h : Good x) (hs : s < 8) (h0 : (x.s s).id ≠ 0) (o : OpI) (hop : (x.s s).ops < 12) (k0 : 0 ≤ o.key ∧ o.key ≤ 63)
include h hs h0 hop k0
/-- The first write of a key that is not there. -/
theorem good_insA (hv : 0 ≤ o.val ∧ o.val ≤ 65535) (hk : o.key ∉ (x.s s).wrote) (ht : x.taken (x.s s).id (x.s s).start o.key = false) (ha : seesI x.v (x.s s).id (x.s s).start o.key = none) (hl : ¬ x.slots ≤ x.v.length) :
  Good { x with s := putS x.s s (wroteT (x.s s) o.key), v := x.v ++ [newV o.key o.val (x.s s).id] } := by
 obtain ⟨f1, f2⟩ := h.free hs h0 hk ht
 have so := h.ses s hs
 have own := List.findIdx?_eq_none_iff.1 (h.own_none hs h0 hk)
 have el := (sees_none ha).2
 refine h.wrote hs h0 k0 (wroteT (x.s s) o.key) rfl rfl rfl (wroteT_mem _ _) ⟨by show 0 ≤ (x.s s).ops + 1; have := so.ops; omega, by show (x.s s).ops + 1 ≤ 12; omega⟩ (wroteT_len _ _ so.wr) (by show ((x.s s).reads.length : Int) ≤ (x.s s).ops + 1; have := so.rd; omega) so.rb (fun i hi c => absurd c (f1 i hi)) _ ?_ (two_new h.two h0 fun y hy c => ?_) (fun y hy => ?_) (fun y hy ne d b => ?_) (fun y hy e d b => ?_)
 ·rw [List.length_append, List.length_singleton]; have := h.len; omega
 ·have := own y hy
  rw [own_iff.2 c] at this
  cases this
 ·rcases List.mem_append.1 hy with q | q
  ·exact .inl q
  ·rw [List.mem_singleton] at q
   subst q
   exact .inr (newV_ok k0 hv so.id h.made.1 h.time.1 ⟨s, hs, by rw [putS_self]; rfl, by rw [putS_self]; exact (wroteT_mem _ _ _).2 (.inr rfl)⟩)
 ·rcases List.mem_append.1 hy with q | q
  ·exact ⟨y, q, rfl, d, b, rfl, rfl, rfl⟩
  ·rw [List.mem_singleton] at q; subst q; exact absurd rfl ne
 ·rcases List.mem_append.1 hy with q | q
  ·obtain ⟨p1, p2, p3, p4⟩ := f2 y q e d
   refine ⟨p3, p4, .inr fun c => ?_⟩
   have := el y q
   rw [elder_iff.2 ⟨e, d, by rw [p2]; exact fun z => h0 z.symm, b, p3, .inr (.inl c)⟩] at this
   cases this
  ·rw [List.mem_singleton] at q; subst q; exact absurd b h0
/-- The first write of a key that is there: its version is ended; l: what is put behind. -/
theorem good_endA (l : List VrI) (hl : l = [] ∨ (l = [newV o.key o.val (x.s s).id] ∧ 0 ≤ o.val ∧ o.val ≤ 65535 ∧ ¬ x.slots ≤ x.v.length)) (hk : o.key ∉ (x.s s).wrote) (ht : x.taken (x.s s).id (x.s s).start o.key = false) {i : Nat} (ha : seesI x.v (x.s s).id (x.s s).start o.key = some i) :
  Good { x with s := putS x.s s (wroteT (x.s s) o.key), v := (setV x.v i fun y => { y with ended := (x.s s).id }) ++ l } := by
 obtain ⟨f1, f2⟩ := h.free hs h0 hk ht
 have so := h.ses s hs
 have own := List.findIdx?_eq_none_iff.1 (h.own_none hs h0 hk)
 obtain ⟨a, hi, he⟩ := h.seen_at hs h0 hk ha
 obtain ⟨ek, ed, en, eb, es, ep⟩ := elder_iff.1 he
 have hm := List.mem_of_getElem? hi
 obtain ⟨_, a2, a3, a4⟩ := f2 a hm ek ed
 have st0 : a.stop = 0 := by
  rcases ep with c | c | c
  ·exact absurd a2 c
  ·exact c
  ·omega
 have memV : ∀ y ∈ (setV x.v i fun y => { y with ended := (x.s s).id }) ++ l, (∃ j, j ≠ i ∧ x.v[j]? = some y) ∨ y = { a with ended := (x.s s).id } ∨ y = newV o.key o.val (x.s s).id := fun y hy => by
  rcases List.mem_append.1 hy with q | q
  ·rcases mem_modify q with c | ⟨b, hb, c⟩
   ·exact .inl c
   ·rw [hi] at hb; cases hb; exact .inr (.inl c)
  ·rcases hl with c | ⟨c, _⟩
   ·rw [c] at q; cases q
   ·rw [c, List.mem_singleton] at q; exact .inr (.inr q)
 have wr : Wr (putS x.s s (wroteT (x.s s) o.key)) (x.s s).id o.key := ⟨s, hs, by rw [putS_self]; rfl, by rw [putS_self]; exact (wroteT_mem _ _ _).2 (.inr rfl)⟩
 refine h.wrote hs h0 k0 (wroteT (x.s s) o.key) rfl rfl rfl (wroteT_mem _ _) ⟨by show 0 ≤ (x.s s).ops + 1; have := so.ops; omega, by show (x.s s).ops + 1 ≤ 12; omega⟩ (wroteT_len _ _ so.wr) (by show ((x.s s).reads.length : Int) ≤ (x.s s).ops + 1; have := so.rd; omega) so.rb (fun i hi c => absurd c (f1 i hi)) _ ?_ ?_ (fun y hy => ?_) (fun y hy ne d b => ?_) (fun y hy e d b => ?_)
 ·rw [List.length_append]
  have : (setV x.v i fun y => { y with ended := (x.s s).id }).length = x.v.length := List.length_modify _ _ _
  rw [this]
  have := h.len
  rcases hl with c | ⟨c, _, _, c'⟩
  ·rw [c, List.length_nil]; omega
  ·rw [c, List.length_singleton]; omega
 ·have two1 : (setV x.v i fun y => { y with ended := (x.s s).id }).Pairwise Apart := by
   rw [apart_core]
   unfold setV
   rw [core_modify x.v i (fun y => { y with ended := (x.s s).id }) (fun _ => rfl), ← apart_core]
   exact h.two
  rcases hl with c | ⟨c, _⟩
  ·rw [c, List.append_nil]; exact two1
  ·rw [c]
   refine two_new two1 h0 fun y hy c => ?_
   rcases mem_modify hy with ⟨j, _, hj⟩ | ⟨b, hb, rfl⟩
   ·have := own y (List.mem_of_getElem? hj)
    rw [own_iff.2 c] at this
    cases this
   ·rw [hi] at hb; cases hb
    exact h0 (c.2.1.symm.trans eb)
 ·rcases memV y hy with ⟨j, _, hj⟩ | rfl | rfl
  ·exact .inl (List.mem_of_getElem? hj)
  ·right
   have o := h.ver a hm
   exact ⟨fun e => absurd eb e, fun e => ⟨ed, st0, by show Wr _ (x.s s).id a.key; rw [ek]; exact wr⟩, o.tm, o.ky, o.vl, o.bm, so.id⟩
  ·rcases hl with c | ⟨c, v0, v1, _⟩
   ·rw [c, List.append_nil] at hy
    rcases mem_modify hy with ⟨j, _, hj⟩ | ⟨b, hb, q⟩
    ·exact .inl (List.mem_of_getElem? hj)
    ·rw [hi] at hb; cases hb
     exact absurd (eb.symm.trans (congrArg VrI.bY q).symm) (fun z => h0 z.symm)
   ·exact .inr (newV_ok k0 ⟨v0, v1⟩ so.id h.made.1 h.time.1 wr)
 ·rcases memV y hy with ⟨j, _, hj⟩ | rfl | rfl
  ·exact ⟨y, List.mem_of_getElem? hj, rfl, d, b, rfl, rfl, rfl⟩
  ·exact absurd ek ne
  ·exact absurd rfl ne
 ·rcases memV y hy with ⟨j, hne, hj⟩ | rfl | rfl
  ·obtain ⟨p1, p2, p3, p4⟩ := f2 y (List.mem_of_getElem? hj) e d
   refine ⟨p3, p4, .inr fun c => ?_⟩
   rcases (apart_at h.two hj hi hne (e.trans ek.symm) d ed).1 b eb with ⟨q, _⟩ | ⟨q, _⟩
   ·exact q c
   ·exact q st0
  ·exact ⟨a3, a4, .inl h0⟩
  ·exact absurd b h0
/-- Written before, and no version of one's own: a new one. -/
theorem good_insB (hv : 0 ≤ o.val ∧ o.val ≤ 65535) (hk : o.key ∈ (x.s s).wrote) (ho : x.v.findIdx? (ownV (x.s s).id o.key) = none) (hl : ¬ x.slots ≤ x.v.length) :
  Good { x with s := putS x.s s (wroteT (x.s s) o.key), v := x.v ++ [newV o.key o.val (x.s s).id] } := by
 have so := h.ses s hs
 have own := List.findIdx?_eq_none_iff.1 ho
 refine h.wrote hs h0 k0 (wroteT (x.s s) o.key) rfl rfl rfl (wroteT_mem _ _) ⟨by show 0 ≤ (x.s s).ops + 1; have := so.ops; omega, by show (x.s s).ops + 1 ≤ 12; omega⟩ (wroteT_len _ _ so.wr) (by show ((x.s s).reads.length : Int) ≤ (x.s s).ops + 1; have := so.rd; omega) so.rb (fun i hi c => h.dis i s o.key hi hs c hk) _ ?_ (two_new h.two h0 fun y hy c => ?_) (fun y hy => ?_) (fun y hy ne d b => ?_) (fun y hy e d b => ?_)
 ·rw [List.length_append, List.length_singleton]; have := h.len; omega
 ·have := own y hy
  rw [own_iff.2 c] at this
  cases this
 ·rcases List.mem_append.1 hy with q | q
  ·exact .inl q
  ·rw [List.mem_singleton] at q
   subst q
   exact .inr (newV_ok k0 hv so.id h.made.1 h.time.1 ⟨s, hs, by rw [putS_self]; rfl, by rw [putS_self]; exact (wroteT_mem _ _ _).2 (.inr rfl)⟩)
 ·rcases List.mem_append.1 hy with q | q
  ·exact ⟨y, q, rfl, d, b, rfl, rfl, rfl⟩
  ·rw [List.mem_singleton] at q; subst q; exact absurd rfl ne
 ·rcases List.mem_append.1 hy with q | q
  ·exact h.fst s o.key hs hk y q e d b
  ·rw [List.mem_singleton] at q; subst q; exact absurd b h0
/-- Written before, a version of one's own: it is turned. -/
theorem good_setC (hk : o.key ∈ (x.s s).wrote) {j : Nat} (ho : x.v.findIdx? (ownV (x.s s).id o.key) = some j) (f : VrI → VrI) (hf : (f = fun y => { y with ended := (x.s s).id }) ∨ ((f = fun y => { y with ended := 0, val := o.val }) ∧ 0 ≤ o.val ∧ o.val ≤ 65535)) :
  Good { x with s := putS x.s s (wroteT (x.s s) o.key), v := setV x.v j f } := by
 have so := h.ses s hs
 obtain ⟨lt, p, _⟩ := List.findIdx?_eq_some_iff_getElem.1 ho
 have hj : x.v[j]? = some x.v[j] := List.getElem?_eq_getElem lt
 obtain ⟨a, ea⟩ : ∃ a, x.v[j] = a := ⟨_, rfl⟩
 rw [ea] at p hj
 obtain ⟨ek, eb, ed⟩ := own_iff.1 p
 have hm := List.mem_of_getElem? hj
 have oa := h.ver a hm
 have b1 := oa.by' (by rw [eb]; exact h0)
 have wr : Wr (putS x.s s (wroteT (x.s s) o.key)) (x.s s).id o.key := ⟨s, hs, by rw [putS_self]; rfl, by rw [putS_self]; exact (wroteT_mem _ _ _).2 (.inr rfl)⟩
 have cf : ∀ y, coreV (f y) = coreV y := by rcases hf with c | ⟨c, _⟩ <;> (subst c; exact fun _ => rfl)
 have fb : (f a).bY = (x.s s).id := by rcases hf with c | ⟨c, _⟩ <;> (subst c; exact eb)
 have fk : (f a).key = o.key := by rcases hf with c | ⟨c, _⟩ <;> (subst c; exact ek)
 refine h.wrote hs h0 k0 (wroteT (x.s s) o.key) rfl rfl rfl (wroteT_mem _ _) ⟨by show 0 ≤ (x.s s).ops + 1; have := so.ops; omega, by show (x.s s).ops + 1 ≤ 12; omega⟩ (wroteT_len _ _ so.wr) (by show ((x.s s).reads.length : Int) ≤ (x.s s).ops + 1; have := so.rd; omega) so.rb (fun i hi c => h.dis i s o.key hi hs c hk) _ (by show ((x.v.modify j f).length : Int) ≤ x.slots; rw [List.length_modify]; exact h.len) (by show (x.v.modify j f).Pairwise Apart; rw [apart_core, core_modify _ _ _ cf, ← apart_core]; exact h.two) (fun y hy => ?_) (fun y hy ne d b => ?_) (fun y hy e d b => ?_)
 ·rcases mem_modify hy with ⟨i, _, hi⟩ | ⟨b, hb, rfl⟩
  ·exact .inl (List.mem_of_getElem? hi)
  ·rw [hj] at hb; cases hb
   right
   rcases hf with c | ⟨c, v0, v1⟩
   ·subst c
    exact ⟨fun _ => ⟨b1.1, .inr eb.symm, fun _ => by show Wr _ a.bY a.key; rw [eb, ek]; exact wr⟩, fun _ => ⟨ed, b1.1, by show Wr _ (x.s s).id a.key; rw [ek]; exact wr⟩, oa.tm, oa.ky, oa.vl, oa.bm, so.id⟩
   ·subst c
    exact ⟨fun _ => ⟨b1.1, .inl rfl, fun _ => by show Wr _ a.bY a.key; rw [eb, ek]; exact wr⟩, fun e => absurd rfl e, oa.tm, oa.ky, ⟨v0, v1⟩, oa.bm, ⟨Int.le_refl _, h.made.1⟩⟩
 ·rcases mem_modify hy with ⟨i, _, hi⟩ | ⟨b', hb, rfl⟩
  ·exact ⟨y, List.mem_of_getElem? hi, rfl, d, b, rfl, rfl, rfl⟩
  ·rw [hj] at hb; cases hb
   exact absurd (fb.symm.trans b) h0
 ·rcases mem_modify hy with ⟨i, _, hi⟩ | ⟨b', hb, rfl⟩
  ·exact h.fst s o.key hs hk y (List.mem_of_getElem? hi) e d b
  ·rw [hj] at hb; cases hb
   exact absurd (fb.symm.trans b) h0
end
theorem wroteV_own {v : List VrI} {id : Int} {o : OpI} {at' : Option Nat} {j : Nat} (h : ∀ i, at' = some i → some j = some i) : MoI.wroteV v id o at' (some j) = if o.kind = 4 then setV v j fun y => { y with ended := id } else setV v j fun y => { y with ended := 0, val := o.val } := by
  cases at' with
  | none => rfl
  | some i =>
    have e := h i rfl
    cases e
    unfold MoI.wroteV
    simp
theorem wroteV_end {v : List VrI} {id : Int} {o : OpI} {i : Nat} : MoI.wroteV v id o (some i) none = (setV v i fun y => { y with ended := id }) ++ if o.kind = 4 then [] else [newV o.key o.val id] := by
 unfold MoI.wroteV
 by_cases k : o.kind = 4
 ·simp [k]
 ·simp [k, newV]
theorem count_at (x : MoI) (s : Nat) : (x.count s).s s = { x.s s with ops := (x.s s).ops + 1 } := putS_self _ _ _
theorem count_over (x : MoI) (s : Nat) : (x.count s).over s = x.over s := by
 unfold MoI.over MoI.count
 simp only [putS_self, putS_put]
theorem count_taken (x : MoI) (s : Nat) (id at' key : Int) : (x.count s).taken id at' key = x.taken id at' key := by
 have e : ∀ i, ((x.count s).s i).id = (x.s i).id ∧ ((x.count s).s i).wrote = (x.s i).wrote := fun i => by
  show (putS x.s s _ i).id = _ ∧ (putS x.s s _ i).wrote = _
  by_cases q : i = s
  ·subst q; rw [putS_self]; exact ⟨rfl, rfl⟩
  ·rw [putS_ne _ _ q]; exact ⟨rfl, rfl⟩
 unfold MoI.taken
 congr 1
 congr 1
 funext i
 rw [(e i).1, (e i).2]
theorem count_keepR (x : MoI) (s : Nat) (r : RdI) : (x.count s).keepR s r = { x with s := putS x.s s { x.s s with ops := (x.s s).ops + 1, reads := (x.s s).reads ++ [r] } } := by
 unfold MoI.keepR MoI.count
 simp only [putS_self, putS_put]
theorem count_wrote (x : MoI) (s : Nat) (key : Int) (v : List VrI) : ({ (if key ∈ (x.s s).wrote then x.count s else (x.count s).keepW s key) with v := v } : MoI) = { x with s := putS x.s s (wroteT (x.s s) key), v := v } := by
 unfold wroteT
 by_cases h : key ∈ (x.s s).wrote
 ·rw [if_pos h, if_pos h]; rfl
 ·rw [if_neg h, if_neg h]
  unfold MoI.keepW MoI.count
  simp only [putS_self, putS_put]
theorem wr_no {m : MoI} (s : Nat) (o : OpI) (h : (o.kind = 2 ∧ seesI m.v (m.s s).id (m.s s).start o.key ≠ none) ∨ (o.kind ≠ 2 ∧ seesI m.v (m.s s).id (m.s s).start o.key = none)) :
  m.write s o = (⟨if seesI m.v (m.s s).id (m.s s).start o.key = none then 11 else 12, 0, [], 0, 0⟩, if o.key ∈ (m.s s).wrote then m else m.keepR s ⟨o.key, o.key, false, false⟩) := by
 unfold MoI.write
 simp only
 rw [if_pos h]
 by_cases hm : o.key ∈ (m.s s).wrote <;> simp [hm]
theorem wr_con {m : MoI} (s : Nat) (o : OpI) (h : ¬ ((o.kind = 2 ∧ seesI m.v (m.s s).id (m.s s).start o.key ≠ none) ∨ (o.kind ≠ 2 ∧ seesI m.v (m.s s).id (m.s s).start o.key = none))) (hm : o.key ∉ (m.s s).wrote) (ht : m.taken (m.s s).id (m.s s).start o.key = true) :
  m.write s o = (MoI.bad 2, m.over s) := by
 unfold MoI.write
 simp only
 rw [if_neg h, if_pos ⟨decide_eq_false hm, ht⟩]
theorem wr_full {m : MoI} (s : Nat) (o : OpI) (h : ¬ ((o.kind = 2 ∧ seesI m.v (m.s s).id (m.s s).start o.key ≠ none) ∨ (o.kind ≠ 2 ∧ seesI m.v (m.s s).id (m.s s).start o.key = none))) (ht : o.key ∈ (m.s s).wrote ∨ m.taken (m.s s).id (m.s s).start o.key = false) (h4 : o.kind ≠ 4) (ho : m.v.findIdx? (ownV (m.s s).id o.key) = none) (hf : m.slots ≤ m.v.length) :
  m.write s o = (MoI.bad 5, m.over s) := by
 unfold MoI.write
 simp only
 rw [if_neg h, if_neg (fun e => by rcases ht with q | q; exact of_decide_eq_false e.1 q; rw [q] at e; cases e.2), if_pos ⟨h4, ho, hf⟩]
theorem wr_ok {m : MoI} (s : Nat) (o : OpI) (h : ¬ ((o.kind = 2 ∧ seesI m.v (m.s s).id (m.s s).start o.key ≠ none) ∨ (o.kind ≠ 2 ∧ seesI m.v (m.s s).id (m.s s).start o.key = none))) (ht : o.key ∈ (m.s s).wrote ∨ m.taken (m.s s).id (m.s s).start o.key = false) (hf : ¬ (o.kind ≠ 4 ∧ m.v.findIdx? (ownV (m.s s).id o.key) = none ∧ m.slots ≤ m.v.length)) :
  m.write s o = (re0, { (if o.key ∈ (m.s s).wrote then m else m.keepW s o.key) with v := MoI.wroteV m.v (m.s s).id o (seesI m.v (m.s s).id (m.s s).start o.key) (m.v.findIdx? (ownV (m.s s).id o.key)) }) := by
 unfold MoI.write
 simp only
 rw [if_neg h, if_neg (fun e => by rcases ht with q | q; exact of_decide_eq_false e.1 q; rw [q] at e; cases e.2), if_neg hf]
 by_cases hm : o.key ∈ (m.s s).wrote <;> simp [hm]
/-- What okI says, by kinds. -/
theorem okI_key {o : OpI} (h : okI o = true) (hk : o.kind ≤ 5) : 1 ≤ o.kind ∧ 0 ≤ o.key ∧ o.key ≤ 63 ∧ (o.kind = 5 → o.key ≤ o.hi ∧ o.hi ≤ 63) ∧ (o.kind = 2 ∨ o.kind = 3 → 0 ≤ o.val ∧ o.val ≤ 65535) := by
 unfold okI at h
 split at h
 ·have := of_decide_eq_true h; omega
 ·split at h
  ·have := of_decide_eq_true h; omega
  ·split at h
   ·have := of_decide_eq_true h; omega
   ·split at h
    ·omega
    ·cases h
/-- A read, or a write that fails by what is seen. -/
theorem good_read (h : Good x) {s : Nat} (hs : s < 8) (h0 : (x.s s).id ≠ 0) (hop : (x.s s).ops < 12) (r : RdI) (hr : 0 ≤ r.lo ∧ r.lo ≤ r.hi ∧ r.hi ≤ 63) : Good ((x.count s).keepR s r) := by
 have so := h.ses s hs
 rw [count_keepR]
 refine h.put _ rfl rfl rfl rfl h0 hs ⟨by show 0 ≤ (x.s s).ops + 1; have := so.ops; omega, by show (x.s s).ops + 1 ≤ 12; omega⟩ (by show ((x.s s).wrote.length : Int) ≤ (x.s s).ops + 1; have := so.wr; omega) (by show (((x.s s).reads ++ [r]).length : Int) ≤ (x.s s).ops + 1; have := so.rd; rw [List.length_append, List.length_singleton]; omega) (fun q hq => ?_)
 rcases List.mem_append.1 hq with c | c
 ·exact so.rb q c
 ·rw [List.mem_singleton] at c; rw [c]; exact hr
theorem good_count (h : Good x) {s : Nat} (hs : s < 8) (h0 : (x.s s).id ≠ 0) (hop : (x.s s).ops < 12) : Good (x.count s) := by
 have so := h.ses s hs
 exact h.put _ rfl rfl rfl rfl h0 hs ⟨by show 0 ≤ (x.s s).ops + 1; have := so.ops; omega, by show (x.s s).ops + 1 ≤ 12; omega⟩ (by show ((x.s s).wrote.length : Int) ≤ (x.s s).ops + 1; have := so.wr; omega) (by show ((x.s s).reads.length : Int) ≤ (x.s s).ops + 1; have := so.rd; omega) so.rb
theorem good_write (h : Good x) {s : Nat} (hs : s < 8) (h0 : (x.s s).id ≠ 0) (hop : (x.s s).ops < 12) (o : OpI) (hok : okI o = true) (hk : o.kind = 2 ∨ o.kind = 3 ∨ o.kind = 4) : Good ((x.count s).write s o).2 := by
  obtain ⟨_, k0, k1, _, kv⟩ := okI_key hok (by omega)
  have ca := count_at x s
  have ci : ((x.count s).s s).id = (x.s s).id := by rw [ca]
  have cs : ((x.count s).s s).start = (x.s s).start := by rw [ca]
  have cw : ((x.count s).s s).wrote = (x.s s).wrote := by rw [ca]
  have cv : (x.count s).v = x.v := rfl
  have fin := fun v => count_wrote x s o.key v
  by_cases hno : ((o.kind = 2 ∧ seesI (x.count s).v ((x.count s).s s).id ((x.count s).s s).start o.key ≠ none) ∨ (o.kind ≠ 2 ∧ seesI (x.count s).v ((x.count s).s s).id ((x.count s).s s).start o.key = none))
  · rw [wr_no s o hno]
    simp only
    split
    · exact good_count h hs h0 hop
    · exact good_read h hs h0 hop _ ⟨k0, Int.le_refl _, k1⟩
  · by_cases hcon : o.key ∉ ((x.count s).s s).wrote ∧ (x.count s).taken ((x.count s).s s).id ((x.count s).s s).start o.key = true
    · rw [wr_con s o hno hcon.1 hcon.2]
      show Good ((x.count s).over s)
      rw [count_over]
      exact good_over h hs h0
    · have ht : o.key ∈ ((x.count s).s s).wrote ∨ (x.count s).taken ((x.count s).s s).id ((x.count s).s s).start o.key = false := by
        by_cases q : o.key ∈ ((x.count s).s s).wrote
        · exact .inl q
        · right
          cases c : (x.count s).taken ((x.count s).s s).id ((x.count s).s s).start o.key with
          | false => rfl
          | true => exact absurd ⟨q, c⟩ hcon
      by_cases hf : (o.kind ≠ 4 ∧ (x.count s).v.findIdx? (ownV ((x.count s).s s).id o.key) = none ∧ (x.count s).slots ≤ (x.count s).v.length)
      · rw [wr_full s o hno ht hf.1 hf.2.1 hf.2.2]
        show Good ((x.count s).over s)
        rw [count_over]
        exact good_over h hs h0
      · rw [wr_ok s o hno ht hf]
        show Good { (if o.key ∈ ((x.count s).s s).wrote then x.count s else (x.count s).keepW s o.key) with v := _ }
        rw [cw, fin, ci, cs, cv]
        rw [ci, cs, cw, count_taken] at ht
        rw [ci, cs, cv] at hno
        rw [ci, cv] at hf
        by_cases hm : o.key ∈ (x.s s).wrote
        · cases ho : x.v.findIdx? (ownV (x.s s).id o.key) with
          | none =>
            have hat : seesI x.v (x.s s).id (x.s s).start o.key = none := by
              cases c : seesI x.v (x.s s).id (x.s s).start o.key with
              | none => rfl
              | some i => rw [h.own_seen hs h0 hm c] at ho; cases ho
            have k2 : o.kind = 2 := Decidable.byContradiction fun c => hno (.inr ⟨c, hat⟩)
            rw [hat]
            unfold MoI.wroteV
            simp only
            rw [if_neg (by omega)]
            exact good_insB h hs h0 o hop ⟨k0, k1⟩ (kv (.inl k2)) hm ho (fun c => hf ⟨by omega, ho, c⟩)
          | some j =>
            rw [wroteV_own (fun i c => by have := h.own_seen hs h0 hm c; rw [ho] at this; exact this)]
            by_cases k4 : o.kind = 4
            · rw [if_pos k4]
              exact good_setC h hs h0 o hop ⟨k0, k1⟩ hm ho _ (.inl rfl)
            · rw [if_neg k4]
              exact good_setC h hs h0 o hop ⟨k0, k1⟩ hm ho _ (.inr ⟨rfl, kv (by omega)⟩)
        · have ht' := ht.resolve_left hm
          have ho := h.own_none hs h0 hm
          rw [ho]
          cases hat : seesI x.v (x.s s).id (x.s s).start o.key with
          | none =>
            have k2 : o.kind = 2 := Decidable.byContradiction fun c => hno (.inr ⟨c, hat⟩)
            unfold MoI.wroteV
            simp only
            rw [if_neg (by omega)]
            exact good_insA h hs h0 o hop ⟨k0, k1⟩ (kv (.inl k2)) hm ht' hat (fun c => hf ⟨by omega, ho, c⟩)
          | some i =>
            rw [wroteV_end]
            by_cases k4 : o.kind = 4
            · rw [if_pos k4]
              exact good_endA h hs h0 o hop ⟨k0, k1⟩ [] (.inl rfl) hm ht' hat
            · rw [if_neg k4]
              exact good_endA h hs h0 o hop ⟨k0, k1⟩ [newV o.key o.val (x.s s).id] (.inr ⟨rfl, (kv (by omega)).1, (kv (by omega)).2, fun c => hf ⟨k4, ho, c⟩⟩) hm ht' hat
theorem doE_zero {s : Int} {o : OpI} (h : x.doE s o = 0) : 0 ≤ s ∧ s ≤ 7 ∧ (x.s s.toNat).id ≠ 0 ∧ okI o = true ∧ (o.kind = 6 ∨ o.kind = 7 ∨ (x.s s.toNat).ops < 12) := by
 unfold MoI.doE at h
 split at h
 ·omega
 ·split at h
  ·omega
  ·next h1 h2 =>
   have hok : okI o = true := by
    cases c : okI o with
    | true => rfl
    | false => exact absurd (.inr c) h2
   split at h
   ·next h3 => exact ⟨by omega, by omega, fun c => h2 (.inl c), hok, by omega⟩
   ·split at h
    ·omega
    ·exact ⟨by omega, by omega, fun c => h2 (.inl c), hok, by omega⟩
theorem good_do (h : Good x) (s : Int) (o : OpI) : Good (x.doM s o) := by
 unfold MoI.doM
 by_cases hz : x.doE s o = 0
 ·rw [if_pos hz]
  obtain ⟨s0, s7, h0, hok, hop⟩ := doE_zero hz
  obtain ⟨n, hn⟩ : ∃ n, s.toNat = n := ⟨_, rfl⟩
  rw [hn] at h0 hop ⊢
  have n8 : n < 8 := by omega
  unfold MoI.run
  split
  ·exact good_over h n8 h0
  ·split
   ·exact good_commit h n8 h0
   ·have hop := (hop.resolve_left (by omega)).resolve_left (by omega)
    have hkk : o.kind ≤ 5 := by
     unfold okI at hok
     split at hok
     ·omega
     ·split at hok
      ·omega
      ·split at hok
       ·omega
       ·split at hok
        ·omega
        ·cases hok
    obtain ⟨q0, q1, q2, q3, q4⟩ := okI_key hok hkk
    split
    ·unfold MoI.get
     simp only
     split
     ·exact good_count h n8 h0 hop
     ·exact good_read h n8 h0 hop _ ⟨q1, Int.le_refl _, q2⟩
    ·split
     ·next k5 => exact good_read h n8 h0 hop _ ⟨q1, q3 k5⟩
     ·exact good_write h n8 h0 hop o hok (by omega)
 ·rw [if_neg hz]; exact h
end
end Go.Proofs.Ytkkjofefjepodaa
/- Package model as landed, in plain lists: fates, versions by key, transactions; and how that tells what a Model of whole calls is (Lr). No dump; no condition. -/
namespace Go.Proofs.Ytkkjofefjepodaa
set_option linter.unusedVariables false
set_option linter.unusedSimpArgs false

/-- A fate: 1 active, 3 committed at a time, 4 aborted. -/
structure FtI where
 st : Int
 fin : Int
/-- A version: its block, its value, whose it is, who ended it. -/
structure VeI where
 b : Nat
 val : Int
 mr : Nat
 en : Option Nat
/-- A transaction: its block, its numbers, what it relies on, its fate. -/
structure TtI where
 b : Nat
 id : Int
 level : Int
 start : Int
 ops : Int
 again : Nat → Bool
 f : Nat
structure LdI where
 slots : Int
 limit : Int
 clock : Int
 begun : Int
 s : Nat → Option TtI
 k : Nat → List VeI
 F : Nat → FtI
def updF (F : Nat → FtI) (g : Nat) (x : FtI) : Nat → FtI := fun j => if j = g then x else F j
theorem updF_self (F : Nat → FtI) (g : Nat) (x : FtI) : updF F g x g = x := if_pos rfl
theorem updF_ne (F : Nat → FtI) {g j : Nat} (x : FtI) (h : j ≠ g) : updF F g x j = F j := if_neg h
def putT (s : Nat → Option TtI) (i : Nat) (x : Option TtI) : Nat → Option TtI := fun j => if j = i then x else s j
theorem putT_self (s : Nat → Option TtI) (i : Nat) (x : Option TtI) : putT s i x i = x := if_pos rfl
theorem putT_ne (s : Nat → Option TtI) {i j : Nat} (x : Option TtI) (h : j ≠ i) : putT s i x j = s j := if_neg h
def putK (k : Nat → List VeI) (i : Nat) (l : List VeI) : Nat → List VeI := fun j => if j = i then l else k j
theorem putK_self (k : Nat → List VeI) (i : Nat) (l : List VeI) : putK k i l i = l := if_pos rfl
theorem putK_ne (k : Nat → List VeI) {i j : Nat} (l : List VeI) (h : j ≠ i) : putK k i l j = k j := if_neg h
def byF (F : Nat → FtI) (f : Option Nat) (at' : Int) : Bool := match f with | none => false | some g => decide ((F g).st = 3) && decide ((F g).fin ≤ at')
def sinceF (F : Nat → FtI) (f : Option Nat) (at' : Int) : Bool := match f with | none => false | some g => decide ((F g).st = 1) || (decide ((F g).st = 3) && decide (at' < (F g).fin))
def existV (F : Nat → FtI) (at' : Int) (v : VeI) : Bool := byF F (some v.mr) at' && !byF F v.en at'
def knowsF (F : Nat → FtI) (t : TtI) (f : Option Nat) : Bool := decide (f = some t.f) || byF F f t.start
def seesV (F : Nat → FtI) (t : TtI) (v : VeI) : Bool := knowsF F t (some v.mr) && !knowsF F t v.en
def madeV (t : TtI) (v : VeI) : Bool := decide (v.mr = t.f)
def confV (F : Nat → FtI) (t : TtI) (v : VeI) : Bool := (decide (v.mr ≠ t.f) && sinceF F (some v.mr) t.start) || (decide (v.en ≠ some t.f) && sinceF F v.en t.start)
def garbV (F : Nat → FtI) (low : Int) (v : VeI) : Bool := decide ((F v.mr).st = 4) || byF F v.en low
def endO (F : Nat → FtI) (io : Nat → Int) (en : Option Nat) : Int := match en with | none => 0 | some e => if (F e).st = 1 then io e else 0
def stopO (F : Nat → FtI) (en : Option Nat) : Int := match en with | none => 0 | some e => if (F e).st = 3 then (F e).fin else 0
/-- A version as the document's Model has it. -/
def verOf (F : Nat → FtI) (io : Nat → Int) (p : Nat × VeI) : VrI :=
  { key := p.1, val := p.2.val, bY := if (F p.2.mr).st = 3 then 0 else io p.2.mr,
    ended := endO F io p.2.en,
    start := if (F p.2.mr).st = 3 then (F p.2.mr).fin else 0,
    stop := stopO F p.2.en,
    dead := decide ((F p.2.mr).st = 4) }
theorem verOf_congr {F F' : Nat → FtI} {io io' : Nat → Int} {p : Nat × VeI} (h1 : F' p.2.mr = F p.2.mr) (h2 : io' p.2.mr = io p.2.mr) (h3 : ∀ e, p.2.en = some e → F' e = F e ∧ io' e = io e) : verOf F' io' p = verOf F io p := by
 obtain ⟨k, b, val, mr, en⟩ := p
 have e1 : endO F' io' en = endO F io en := by
  cases en with
  | none => rfl
  | some e => unfold endO; simp only; rw [(h3 e rfl).1, (h3 e rfl).2]
 have e2 : stopO F' en = stopO F en := by
  cases en with
  | none => rfl
  | some e => unfold stopO; simp only; rw [(h3 e rfl).1]
 simp only at h1 h2
 unfold verOf
 simp only [h1, h2, e1, e2]
/-- What a transaction's reads ask to be looked at again. -/
def needs (x : TxI) (k : Int) : Prop := ∃ r ∈ x.reads, ¬ (x.level = 2 ∧ r.found = false) ∧ r.lo ≤ k ∧ k ≤ r.hi
/-- A fate that is in use. -/
structure UsO (N : Int) (s : Nat → Option TtI) (F : Nat → FtI) (io : Nat → Int) (g : Nat) : Prop where
 st : (F g).st = 1 ∨ (F g).st = 3 ∨ (F g).st = 4
 one : (F g).st = 1 → ∃ i t, i < 8 ∧ s i = some t ∧ t.f = g
 fin : (F g).st = 3 → 1 ≤ (F g).fin
 le : 1 ≤ io g ∧ io g ≤ N
 own : ∀ i t, i < 8 → s i = some t → io g = t.id → g = t.f
theorem UsO.nz {N : Int} {s : Nat → Option TtI} {F : Nat → FtI} {io : Nat → Int} {g : Nat} (u : UsO N s F io g) : io g ≠ 0 := by have := u.le; omega
/-- A transaction, as the document's Model has it. -/
structure TsO (L : List (Nat × VeI)) (F : Nat → FtI) (io : Nat → Int) (t : TtI) (x : TxI) : Prop where
 id : x.id = t.id
 nz : t.id ≠ 0
 level : x.level = t.level
 start : x.start = t.start
 ops : x.ops = t.ops
 st : (F t.f).st = 1
 io : io t.f = t.id
 wr : ∀ k, k ∈ x.wrote → ∃ p ∈ L, (p.1 : Int) = k ∧ (p.2.mr = t.f ∨ p.2.en = some t.f)
 ag : ∀ k : Nat, k < 64 → t.again k = true → 2 ≤ t.level ∧ (needs x k ∨ (k : Int) ∈ x.wrote)
 an : ∀ k : Nat, k < 64 → 2 ≤ t.level → needs x k → t.again k = true
structure LrL (L : List (Nat × VeI)) (io : Nat → Int) (z : LdI) (x : MoI) : Prop where
 c1 : x.slots = z.slots
 c2 : x.limit = z.limit
 c3 : x.time = z.clock
 c4 : x.made = z.begun
 v : x.v = L.map (verOf z.F io)
 k : ∀ k, k < 64 → z.k k = (L.filter (fun p => decide (p.1 = k))).map (·.2)
 lt : ∀ p ∈ L, p.1 < 64
 nd : (L.map (·.2.b)).Nodup
 mu : ∀ p ∈ L, UsO z.begun z.s z.F io p.2.mr
 en : ∀ p ∈ L, ∀ e, p.2.en = some e → UsO z.begun z.s z.F io e
 no : ∀ i, i < 8 → z.s i = none → x.s i = tx0
 ts : ∀ i t, i < 8 → z.s i = some t → TsO L z.F io t (x.s i)
/-- What is landed tells the document's Model. -/
def Lr (z : LdI) (x : MoI) : Prop := ∃ L io, LrL L io z x
section
variable {L : List (Nat × VeI)} {io : Nat → Int} {z : LdI} {x : MoI}
theorem LrL.ses0 (h : LrL L io z x) {i : Nat} (hi : i < 8) : z.s i = none ↔ (x.s i).id = 0 := by
  refine ⟨fun e => by rw [h.no i hi e]; rfl, fun e => ?_⟩
  cases c : z.s i with
  | none => rfl
  | some t =>
    have := h.ts i t hi c
    exact absurd (this.id.symm.trans e) this.nz
theorem LrL.sess (h : LrL L io z x) {i : Nat} (hi : i < 8) (hx : (x.s i).id ≠ 0) : ∃ t, z.s i = some t := by
 cases c : z.s i with
 | none => exact absurd ((h.ses0 hi).1 c) hx
 | some t => exact ⟨t, rfl⟩
/-- Two sessions have two fates. -/
theorem LrL.apart (h : LrL L io z x) (g : Good x) {i j : Nat} {t u : TtI} (hi : i < 8) (hj : j < 8) (ht : z.s i = some t) (hu : z.s j = some u) (e : t.f = u.f) : i = j := by
 have a := h.ts i t hi ht
 have b := h.ts j u hj hu
 refine g.ids i j hi hj (by rw [a.id]; exact a.nz) ?_
 rw [a.id, b.id, ← a.io, ← b.io, e]
theorem find_map {α β : Type} (f : α → β) (p : β → Bool) (l : List α) : (l.map f).find? p = (l.find? (fun a => p (f a))).map f := by
  induction l with
  | nil => rfl
  | cons a l ih =>
    rw [List.map_cons, List.find?_cons, List.find?_cons]
    cases p (f a) with
    | true => rfl
    | false => exact ih
/-- The first version of a key that is so, and where it stands. -/
theorem lfind_at (k : Nat) (P : VeI → Bool) (Q : VrI → Bool) (F : Nat → FtI) : ∀ (L : List (Nat × VeI)), (∀ p ∈ L, Q (verOf F io p) = (decide (p.1 = k) && P p.2)) →
    ((L.filter (fun p => decide (p.1 = k))).map (·.2)).find? P = ((L.map (verOf F io)).findIdx? Q).bind fun i => (L[i]?).map (·.2) := by
  intro L
  induction L with
  | nil => intro _; rfl
  | cons p L ih =>
    intro h
    have hp := h p (by simp)
    have ih := ih (fun q hq => h q (by simp [hq]))
    rw [List.map_cons, List.findIdx?_cons, hp, List.filter_cons]
    by_cases e : p.1 = k
    · rw [decide_eq_true e, if_pos rfl, List.map_cons, List.find?_cons]
      cases c : P p.2 with
      | true => rfl
      | false =>
        simp only [Bool.true_and, Bool.false_eq_true, if_false]
        rw [ih]
        cases (L.map (verOf F io)).findIdx? Q with
        | none => rfl
        | some i => rfl
    · rw [decide_eq_false e]
      simp only [Bool.false_and, Bool.false_eq_true, if_false]
      rw [ih]
      cases (L.map (verOf F io)).findIdx? Q with
      | none => rfl
      | some i => rfl
theorem findIdx_some {α : Type} {Q : α → Bool} {l : List α} {i : Nat} (h : l.findIdx? Q = some i) : ∃ a, l[i]? = some a ∧ Q a = true := by
 obtain ⟨hi, hq, _⟩ := List.findIdx?_eq_some_iff_getElem.1 h
 exact ⟨l[i], List.getElem?_eq_getElem hi, hq⟩
theorem findIdx_congr {α : Type} (P Q : α → Bool) (l : List α) (h : ∀ a ∈ l, P a = Q a) : l.findIdx? P = l.findIdx? Q := by
  induction l with
  | nil => rfl
  | cons a l ih =>
    rw [List.findIdx?_cons, List.findIdx?_cons, h a (by simp), ih fun b hb => h b (by simp [hb])]
theorem LrL.find (h : LrL L io z x) {k : Nat} (hk : k < 64) {P : VeI → Bool} {Q : VrI → Bool} (hq : ∀ p ∈ L, Q (verOf z.F io p) = (decide (p.1 = k) && P p.2)) :
  (z.k k).find? P = (x.v.findIdx? Q).bind fun i => (L[i]?).map (·.2) := by
 rw [h.k k hk, h.v]
 exact lfind_at k P Q z.F L hq
theorem LrL.find_none (h : LrL L io z x) {k : Nat} (hk : k < 64) {P : VeI → Bool} {Q : VrI → Bool} (hq : ∀ p ∈ L, Q (verOf z.F io p) = (decide (p.1 = k) && P p.2)) (hn : x.v.findIdx? Q = none) : (z.k k).find? P = none := by
 rw [h.find hk hq, hn]; rfl
theorem LrL.find_some (h : LrL L io z x) {k : Nat} (hk : k < 64) {P : VeI → Bool} {Q : VrI → Bool} (hq : ∀ p ∈ L, Q (verOf z.F io p) = (decide (p.1 = k) && P p.2)) {i : Nat} (hn : x.v.findIdx? Q = some i) :
    ∃ v, L[i]? = some (k, v) ∧ P v = true ∧ x.v[i]? = some (verOf z.F io (k, v)) ∧ (z.k k).find? P = some v := by
  obtain ⟨y, hy, hQ⟩ := findIdx_some hn
  have hy2 := hy
  rw [h.v, List.getElem?_map] at hy2
  cases c : L[i]? with
  | none => rw [c] at hy2; cases hy2
  | some p =>
    rw [c] at hy2
    have e : verOf z.F io p = y := by simpa using hy2
    have := hq p (List.mem_of_getElem? c)
    rw [e, hQ] at this
    have t := Bool.and_eq_true_iff.1 this.symm
    obtain rfl : p.1 = k := of_decide_eq_true t.1
    refine ⟨p.2, rfl, t.2, by rw [e]; exact hy, ?_⟩
    rw [h.find hk hq, hn, Option.bind_some, c]
    rfl
theorem LrL.at (h : LrL L io z x) {i : Nat} {p : Nat × VeI} (hp : L[i]? = some p) : x.v[i]? = some (verOf z.F io p) := by rw [h.v, List.getElem?_map, hp]; rfl
theorem LrL.mem (h : LrL L io z x) {p : Nat × VeI} (hp : p ∈ L) : verOf z.F io p ∈ x.v := by rw [h.v]; exact List.mem_map_of_mem hp
/-- There at a time. -/
theorem LrL.q_exist (h : LrL L io z x) (k : Nat) (at' : Int) : ∀ p ∈ L, thereV k at' (verOf z.F io p) = (decide (p.1 = k) && existV z.F at' p.2) := by
  intro p hp
  have um := h.mu p hp
  rw [Bool.eq_iff_iff, there_iff, Bool.and_eq_true, decide_eq_true_iff]
  obtain ⟨k', b, val, mk, en⟩ := p
  have hk : ((k' : Int) = k) ↔ k' = k := by omega
  unfold existV byF verOf endO stopO
  simp only [hk, Bool.and_eq_true, decide_eq_true_iff, decide_eq_false_iff_not, Bool.not_eq_true']
  have us := um.st
  have uf := um.fin
  simp only at us uf
  cases en with
  | none =>
    by_cases s3 : (z.F mk).st = 3
    · simp only [if_pos s3]; simp; omega
    · have := um.nz
      simp only at this
      simp only [if_neg s3]; simp; omega
  | some e =>
    have ue := h.en _ hp e rfl
    have es := ue.st
    have ef := ue.fin
    by_cases s3 : (z.F mk).st = 3
    · by_cases e3 : (z.F e).st = 3
      · have := ef e3
        simp only [if_pos s3, if_pos e3]; simp; omega
      · simp only [if_pos s3, if_neg e3]; simp; omega
    · have := um.nz
      simp only at this
      simp only [if_neg s3]; simp; omega
section
variable {i : Nat} {t : TtI}
/-- One's own. -/
theorem LrL.own_f (h : LrL L io z x) (hi : i < 8) (ht : z.s i = some t) {g : Nat} (u : UsO z.begun z.s z.F io g) : io g = (x.s i).id ↔ g = t.f := by
 have ts := h.ts i t hi ht
 rw [ts.id]
 exact ⟨u.own i t hi ht, fun e => by rw [e]; exact ts.io⟩
theorem LrL.q_made (h : LrL L io z x) (hi : i < 8) (ht : z.s i = some t) (k : Nat) : ∀ p ∈ L, ownV (x.s i).id k (verOf z.F io p) = (decide (p.1 = k) && madeV t p.2) := by
 intro p hp
 have um := h.mu p hp
 have ts := h.ts i t hi ht
 have of := h.own_f hi ht um
 rw [Bool.eq_iff_iff, own_iff, Bool.and_eq_true, decide_eq_true_iff]
 obtain ⟨k', b, val, mk, en⟩ := p
 have hk : ((k' : Int) = k) ↔ k' = k := by omega
 unfold madeV verOf
 simp only [hk, decide_eq_true_iff, decide_eq_false_iff_not]
 simp only at of
 by_cases e : mk = t.f
 ·have st := ts.st
  rw [← e] at st
  rw [if_neg (by omega), of]
  exact ⟨fun q => ⟨q.1, e⟩, fun q => ⟨q.1, e, by omega⟩⟩
 ·refine ⟨fun q => ?_, fun q => absurd q.2 e⟩
  have q2 := q.2.1
  by_cases s3 : (z.F mk).st = 3
  ·rw [if_pos s3, ts.id] at q2; exact absurd q2.symm ts.nz
  ·rw [if_neg s3] at q2; exact absurd (of.1 q2) e
/-- What one sees. -/
theorem LrL.q_sees (h : LrL L io z x) (g : Good x) (hi : i < 8) (ht : z.s i = some t) (k : Nat) : ∀ p ∈ L, (mineV (x.s i).id k (verOf z.F io p) || elderV (x.s i).id k (x.s i).start (verOf z.F io p)) = (decide (p.1 = k) && seesV z.F t p.2) := by
  intro p hp
  have um := h.mu p hp
  have ts := h.ts i t hi ht
  have of := h.own_f hi ht um
  have vo := g.ver _ (h.mem hp)
  rw [Bool.eq_iff_iff, Bool.or_eq_true, mine_iff, elder_iff, Bool.and_eq_true, decide_eq_true_iff]
  obtain ⟨k', b, val, mk, en⟩ := p
  have hk : ((k' : Int) = k) ↔ k' = k := by omega
  have us := um.st
  have uf := um.fin
  have un := um.nz
  have vb := vo.by'
  unfold seesV knowsF byF
  unfold verOf endO stopO at vb ⊢
  simp only at of us uf un vb
  rw [ts.start]
  have id0 : (x.s i).id ≠ 0 := by rw [ts.id]; exact ts.nz
  simp only [hk, Bool.and_eq_true, Bool.or_eq_true, decide_eq_true_iff, decide_eq_false_iff_not, Bool.not_eq_true', Bool.or_eq_false_iff, Option.some.injEq]
  by_cases e : mk = t.f
  · have st := ts.st
    rw [← e] at st
    have i1 := of.2 e
    cases en with
    | none =>
      simp [if_neg (show ¬ (z.F mk).st = 3 by omega), e, st, i1]
      rw [← e, i1]
      simp [st]
      omega
    | some d =>
      have ue := h.en _ hp d rfl
      have od := h.own_f hi ht ue
      have es := ue.st
      have ef := ue.fin
      rw [if_neg (show ¬ (z.F mk).st = 3 by omega)] at vb ⊢
      have v1 := (vb un).1
      have d3 : (z.F d).st ≠ 3 := fun c => by simp only at v1; rw [if_pos c] at v1; have := ef c; omega
      by_cases dd : d = t.f
      · have i2 := od.2 dd
        have s1 : (z.F d).st = 1 := by rw [dd]; exact ts.st
        subst dd
        simp [s1, i2]
      · have i2 : io d ≠ (x.s i).id := fun c => dd (od.1 c)
        rw [i1]
        by_cases s1 : (z.F d).st = 1
        · simp [s1, i2, dd, e, st]; rw [← e, st]; simp; omega
        · simp [s1, dd, e, d3]; rw [← e, st]; simp; omega
  · have i1 : io mk ≠ (x.s i).id := fun c => e (of.1 c)
    by_cases s3 : (z.F mk).st = 3
    · cases en with
      | none =>
        simp [s3, e]; omega
      | some d =>
        have ue := h.en _ hp d rfl
        have od := h.own_f hi ht ue
        have es := ue.st
        have ef := ue.fin
        have un2 := ue.nz
        by_cases dd : d = t.f
        · have i2 := od.2 dd
          have s1 : (z.F d).st = 1 := by rw [dd]; exact ts.st
          subst dd
          simp [s1, i2]
        · have i2 : io d ≠ (x.s i).id := fun c => dd (od.1 c)
          by_cases s1 : (z.F d).st = 1
          · simp [s3, s1, i2, dd, e, un2]; omega
          · by_cases d3 : (z.F d).st = 3
            · have := ef d3
              simp [s3, d3, dd, e]; omega
            · simp [s3, s1, d3, dd, e]; omega
    · simp [s3, e, i1, un]
end
end
end Go.Proofs.Ytkkjofefjepodaa
/- A Model of whole calls in plain lists: states that are laid by calls one behind the other; calls that are known to be allowed. No dump; no condition. -/
namespace Go.Proofs.Ytkkjofefjepodaa
set_option linter.unusedVariables false
namespace MoI
/-- A call that is known to be allowed, of a session that lives. -/
def doE' (m : MoI) (s : Int) (o : OpI) : Int :=
 if s < 0 ∨ 7 < s then 1 else if (m.s s.toNat).id = 0 then 9 else if o.kind = 7 ∨ o.kind = 6 then 0 else if 12 ≤ (m.s s.toNat).ops then 65 else 0
def doR' (m : MoI) (s : Int) (o : OpI) : ReI := if m.doE' s o = 0 then (m.run s.toNat o).1 else re0
def doM' (m : MoI) (s : Int) (o : OpI) : MoI := if m.doE' s o = 0 then (m.run s.toNat o).2 else m
end MoI
section
variable {m : MoI} {s : Int} {o : OpI}
theorem doE_ok (h : okI o = true) : m.doE s o = m.doE' s o := by
 unfold MoI.doE MoI.doE'
 simp [h]
theorem doR_ok (h : okI o = true) : m.doR s o = m.doR' s o := by unfold MoI.doR MoI.doR'; rw [doE_ok h]
theorem doM_ok (h : okI o = true) : m.doM s o = m.doM' s o := by unfold MoI.doM MoI.doM'; rw [doE_ok h]
end
/-- Two transactions over two keys. -/
def pair0 : MoI := (((((new0 50 100).beg 7 1).doM' 7 ⟨2, 1, 0, 10⟩).doM' 7 ⟨2, 2, 0, 20⟩).doM' 7 ⟨6, 0, 0, 0⟩)
def pairM (a b : Int) : MoI := (pair0.beg 0 a).beg 1 b
theorem level_cases {a : Int} (h : 1 ≤ a ∧ a ≤ 3) : a = 1 ∨ a = 2 ∨ a = 3 := by omega
/-- Eight sessions, told one by one. -/
def ses (l : List TxI) : Nat → TxI := fun i => l.getD i tx0
theorem ses_eq {f : Nat → TxI} {l : List TxI} (h0 : f 0 = ses l 0) (h1 : f 1 = ses l 1) (h2 : f 2 = ses l 2) (h3 : f 3 = ses l 3) (h4 : f 4 = ses l 4) (h5 : f 5 = ses l 5) (h6 : f 6 = ses l 6) (h7 : f 7 = ses l 7) (h8 : ∀ n, f (n + 8) = ses l (n + 8)) : f = ses l := by
 funext i
 match i with
 | 0 => exact h0
 | 1 => exact h1
 | 2 => exact h2
 | 3 => exact h3
 | 4 => exact h4
 | 5 => exact h5
 | 6 => exact h6
 | 7 => exact h7
 | n + 8 => exact h8 n
/-- A write's call may be. -/
theorem okv {k key v : Int} (hk : k = 2 ∨ k = 3) (h : 0 ≤ key ∧ key ≤ 63) (hv : 0 ≤ v ∧ v ≤ 65535) : okI ⟨k, key, 0, v⟩ = true := by
 unfold okI
 rcases hk with rfl | rfl <;> simp <;> omega
def pairL (a b : Int) : MoI := ⟨50, 100, [⟨1, 10, 0, 0, 2, 0, false⟩, ⟨2, 20, 0, 0, 2, 0, false⟩], ses [⟨2, a, 0, 3, [], []⟩, ⟨3, b, 0, 4, [], []⟩, tx0, tx0, tx0, tx0, tx0, tx0], 4, 3⟩
theorem pair_lit {a b : Int} (ha : 1 ≤ a ∧ a ≤ 3) (hb : 1 ≤ b ∧ b ≤ 3) : pairM a b = pairL a b := by
 rcases level_cases ha with rfl | rfl | rfl <;> rcases level_cases hb with rfl | rfl | rfl <;> exact MoI.ext rfl rfl rfl (ses_eq rfl rfl rfl rfl rfl rfl rfl rfl (fun _ => rfl)) rfl rfl
end Go.Proofs.Ytkkjofefjepodaa
/- A Model of whole calls in plain lists, for some of layer 19's statements: times that run out (Tm), readers alone (Rd0). No dump; no condition. -/
namespace Go.Proofs.Ytkkjofefjepodaa
set_option linter.unusedVariables false
/-- No versions; each session that lives is LSnap; the clock is at now of n. -/
structure Tm (n now : Int) (x : MoI) : Prop where
 v : x.v = []
 l : x.limit = n
 t : x.time = now
 m : x.made ≤ now
 b : 0 ≤ now ∧ now ≤ n ∧ n ≤ 60
 s : ∀ i, i < 8 → (x.s i).id ≠ 0 → (x.s i).level = 1
section
variable {n now : Int} {x : MoI} {k : Nat}
theorem doE_live {o : OpI} (hk : k < 8) (h : (x.s k).id ≠ 0) (ho : okI o = true) (h6 : o.kind = 7 ∨ o.kind = 6) : x.doE k o = 0 := by
 unfold MoI.doE
 rw [if_neg (by omega)]
 exact (if_neg (fun c => by rcases c with c | c; exact h c; rw [ho] at c; cases c)).trans (if_pos h6)
theorem run_commit : x.run k ⟨6, 0, 0, 0⟩ = x.commit k := by
 unfold MoI.run
 rw [if_neg (by decide), if_pos rfl]
theorem do_commit (hk : k < 8) (h : (x.s k).id ≠ 0) : x.doE k ⟨6, 0, 0, 0⟩ = 0 ∧ x.doR k ⟨6, 0, 0, 0⟩ = (x.commit k).1 ∧ x.doM k ⟨6, 0, 0, 0⟩ = (x.commit k).2 := by
 have e := doE_live hk h (o := ⟨6, 0, 0, 0⟩) rfl (.inr rfl)
 refine ⟨e, ?_, ?_⟩
 ·unfold MoI.doR; rw [if_pos e]; exact congrArg Prod.fst run_commit
 ·unfold MoI.doM; rw [if_pos e]; exact congrArg Prod.snd run_commit
theorem tm_new (n : Int) (h : 1 ≤ n ∧ n ≤ 60) : Tm n 0 (new0 5 n) := ⟨rfl, rfl, rfl, Int.le_refl _, by omega, fun i hi e => absurd rfl e⟩
theorem tm_live_in (h : Tm n now x) (hk : k < 8) (hl : (x.s k).id ≠ 0) (ht : now < n) : ∃ y, x.doE k ⟨6, 0, 0, 0⟩ = 0 ∧ x.doR k ⟨6, 0, 0, 0⟩ = ⟨0, 0, [], 3, 0⟩ ∧ x.doM k ⟨6, 0, 0, 0⟩ = y ∧ Tm n (now + 1) y := by
 obtain ⟨d1, d2, d3⟩ := do_commit hk hl
 have e : x.commit k = (⟨0, 0, [], 3, 0⟩, { x with time := x.time + 1, v := x.v.map (doneV (x.s k).id (x.time + 1)), s := putS x.s k tx0 }) := by
  unfold MoI.commit
  rw [if_neg (by rw [h.l, h.t]; omega)]
  simp only
  rw [if_neg (fun c => c.1 (h.s k hk hl))]
 rw [e] at d2 d3
 refine ⟨_, d1, d2, d3, by show x.v.map _ = []; rw [h.v]; rfl, h.l, by show x.time + 1 = _; rw [h.t], by have := h.m; show x.made ≤ now + 1; omega, by have := h.b; omega, fun i hi hne => ?_⟩
 have hne : (putS x.s k tx0 i).id ≠ 0 := hne
 show (putS x.s k tx0 i).level = 1
 by_cases c : i = k
 ·rw [c, putS_self] at hne; exact absurd rfl hne
 ·rw [putS_ne _ _ c] at hne ⊢; exact h.s i hi hne
theorem tm_live_out (h : Tm n now x) (hk : k < 8) (hl : (x.s k).id ≠ 0) (ht : ¬ now < n) : ∃ y, x.doE k ⟨6, 0, 0, 0⟩ = 0 ∧ x.doR k ⟨6, 0, 0, 0⟩ = ⟨14, 0, [], 4, 6⟩ ∧ x.doM k ⟨6, 0, 0, 0⟩ = y ∧ Tm n now y := by
 obtain ⟨d1, d2, d3⟩ := do_commit hk hl
 have e : x.commit k = (MoI.bad 6, x.over k) := by
  unfold MoI.commit
  rw [if_pos (by rw [h.l, h.t]; omega)]
 rw [e] at d2 d3
 refine ⟨_, d1, d2, d3, by show x.v.map _ = []; rw [h.v]; rfl, h.l, h.t, h.m, h.b, fun i hi hne => ?_⟩
 have hne : (putS x.s k tx0 i).id ≠ 0 := hne
 show (putS x.s k tx0 i).level = 1
 by_cases c : i = k
 ·rw [c, putS_self] at hne; exact absurd rfl hne
 ·rw [putS_ne _ _ c] at hne ⊢; exact h.s i hi hne
theorem beg_in (hk : k < 8) (hl : (x.s k).id = 0) (level : Int) (lv : 1 ≤ level ∧ level ≤ 3) (hm : x.made < 2000) (ht : x.time < x.limit) : x.begE k level = 0 ∧ x.begN k level = x.made + 1 ∧ x.beg k level = { x with time := x.time + 1, made := x.made + 1, s := putS x.s k ⟨x.made + 1, level, 0, x.time + 1, [], []⟩ } := by
 have e : x.begE k level = 0 := by
  unfold MoI.begE
  rw [if_neg (by omega)]
  exact (if_neg (fun c => c hl)).trans ((if_neg (by omega)).trans (if_neg (by omega)))
 exact ⟨e, by unfold MoI.begN; rw [if_pos e], by unfold MoI.beg; rw [if_pos e]; rfl⟩
theorem tm_beg_in (h : Tm n now x) (hk : k < 8) (hl : (x.s k).id = 0) (ht : now < n) : ∃ y a, x.begN k 1 = a ∧ x.begE k 1 = 0 ∧ x.beg k 1 = y ∧ Tm n (now + 1) y ∧ y.s k = ⟨a, 1, 0, now + 1, [], []⟩ ∧ a ≠ 0 ∨ x.made < 0 := by
 by_cases hm0 : x.made < 0
 ·exact ⟨x, 0, .inr hm0⟩
 have hb := h.b
 have hm := h.m
 obtain ⟨e, n1, b1⟩ := beg_in (x := x) hk hl 1 (by omega) (by omega) (by rw [h.t, h.l]; exact ht)
 refine ⟨_, _, .inl ⟨n1, e, b1, ⟨h.v, h.l, by show x.time + 1 = _; rw [h.t], by show x.made + 1 ≤ _; omega, by omega, fun i hi hne => ?_⟩, ?_, by omega⟩⟩
 ·show (putS x.s k _ i).level = 1
  have hne : (putS x.s k ⟨x.made + 1, 1, 0, x.time + 1, [], []⟩ i).id ≠ 0 := hne
  by_cases c : i = k
  ·rw [c, putS_self]
  ·rw [putS_ne _ _ c] at hne ⊢; exact h.s i hi hne
 ·show putS x.s k _ k = _
  rw [putS_self, h.t]
theorem tm_beg_out (h : Tm n now x) (hk : k < 8) (hl : (x.s k).id = 0) (ht : ¬ now < n) : x.begN k 1 = 0 ∧ x.begE k 1 = 16 ∧ x.beg k 1 = x := by
 have hb := h.b
 have hm := h.m
 have e : x.begE k 1 = 16 := by
  unfold MoI.begE
  rw [if_neg (by omega)]
  exact (if_neg (fun c => c hl)).trans ((if_neg (by omega)).trans (if_pos (by rw [h.l, h.t]; omega)))
 exact ⟨by unfold MoI.begN; rw [if_neg (by rw [e]; decide)], e, by unfold MoI.beg; rw [if_neg (by rw [e]; decide)]⟩
end
end Go.Proofs.Ytkkjofefjepodaa
