/- Several texts, one behind the other: Keep, Rs, Own, Once, OnceDo, Arena, Meth, OwnM, Grid. -/
import Derived.Test.YtmfpjnlplimkeaaGreatRows
import Derived.Test.YtmfpjnlplimkeaaGreatLawHashPlaysZaa
import Derived.WalkKit
import Derived.ProofKit
import Derived.OpenShut
import Derived.WalkLawsBesides
import Derived.Below
import Derived.Lib.Hide
import Derived.Deep.Draws
import Derived.OwnWalk
import Derived.OneCell
import Derived.Laws.LoneSync
import Derived.Laws.Pointers
import Derived.Defers
import Derived.RegionTactic
import Derived.RegionCalls
import Derived.ChangeAlike
/- Plain facts on worlds, no dump: 'Keep S' (of the blocks that are there only those in S may have turned), a block of 64-bit words; no condition. -/
namespace Go.Proofs.YtmfpjnlplimkeaaGreat
open Go.ChangeShapes Go.WideShapes Go.ChangeAt Go.RowKit
set_option linter.unusedVariables false

/-- Of the blocks that are there in w none has turned but those in S; streams as they were; no block has gone. -/
structure Keep (S : Nat → Prop) (w w' : World) : Prop where
  os : w'.os = w.os
  tape : w'.tape = w.tape
  output : w'.output = w.output
  size : w.heap.size ≤ w'.heap.size
  block : ∀ k, k < w.heap.size → ¬ S k → w'.heap[k]? = w.heap[k]?

theorem Keep.refl (S : Nat → Prop) (w : World) : Keep S w w := ⟨rfl, rfl, rfl, Nat.le_refl _, fun _ _ _ => rfl⟩
theorem Keep.trans {S : Nat → Prop} {a b c : World} (h : Keep S a b) (k : Keep S b c) : Keep S a c :=
  ⟨k.os.trans h.os, k.tape.trans h.tape, k.output.trans h.output, Nat.le_trans h.size k.size, fun i hi n => (k.block i (Nat.lt_of_lt_of_le hi h.size) n).trans (h.block i hi n)⟩
theorem Keep.mono {S T : Nat → Prop} {w w' : World} (h : Keep S w w') (hs : ∀ k, S k → T k) : Keep T w w' := ⟨h.os, h.tape, h.output, h.size, fun k hk n => h.block k hk (fun x => n (hs k x))⟩
theorem Keep.setCell {S : Nat → Prop} {a w : World} (h : Keep S a w) {p : Addr} (hp : S p.block) (u : Value) : Keep S a (w.setCell p u) :=
  h.trans ⟨rfl, rfl, rfl, by simp [World.setCell], fun k _ n => Below.heap_setCell _ _ _ _ (fun e => n (e ▸ hp))⟩
theorem Keep.alloc {S : Nat → Prop} {a w : World} (h : Keep S a w) (o : Obj) : Keep S a (w.alloc o) :=
  h.trans ⟨rfl, rfl, rfl, by simp, fun k hk _ => Below.heap_alloc _ _ _ hk⟩
theorem Keep.drew {S : Nat → Prop} {a w : World} (h : Keep S a w) : Keep S a w.drew := ⟨h.os, h.tape, h.output, h.size, h.block⟩
theorem Keep.below {S : Nat → Prop} {w w' : World} (h : Keep S w w') {B : Nat} (hB : B ≤ w.heap.size) (hs : ∀ k, S k → B ≤ k) : Below B w w' :=
  ⟨h.os, h.tape, h.output, h.size, fun k hk => h.block k (by omega) (fun x => by have := hs k x; omega)⟩
theorem Keep.of_below {w w' : World} (h : Below w.heap.size w w') (S : Nat → Prop) : Keep S w w' := ⟨h.os, h.tape, h.output, h.size, fun k hk _ => h.block k hk⟩
theorem Keep.cell {S : Nat → Prop} {w w' : World} (h : Keep S w w') {a : Addr} {v : Value} (hc : w.cell? a = some v) (hn : ¬ S a.block) : w'.cell? a = some v := by
  have hlt : a.block < w.heap.size := by
    rcases Nat.lt_or_ge a.block w.heap.size with h' | h'
    · exact h'
    · simp [World.cell?, Array.getElem?_eq_none h'] at hc
  rw [World.cell?_of_block (w := w) (h.block _ hlt hn)]; exact hc
theorem lt_of_cell {w : World} {a : Addr} {v : Value} (hc : w.cell? a = some v) : a.block < w.heap.size := by
  rcases Nat.lt_or_ge a.block w.heap.size with h' | h'
  · exact h'
  · simp [World.cell?, Array.getElem?_eq_none h'] at hc
theorem Keep.frozen {S : Nat → Prop} {w w' : World} (h : Keep S w w') {a : Addr} (hlt : a.block < w.heap.size) (hn : ¬ S a.block) : w'.frozen? a = w.frozen? a :=
  World.frozen?_of_block (w := w) (h.block _ hlt hn)

theorem keep_one (w : World) (a : Addr) (u : Value) : Keep (fun z => z = a.block) w (w.setCell a u) := Keep.setCell (S := fun z => z = a.block) (Keep.refl _ w) rfl u
/-- Block b holds the numbers zs, one a cell, and each may be written. -/
structure RowU (w : World) (b : Nat) (zs : List Int) : Prop where
  cell : ∀ i, i < zs.length → w.cell? ⟨b, i, none⟩ = some (.int .u64 (zs.getD i 0))
  free : ∀ i, w.frozen? ⟨b, i, none⟩ = false
  lt : b < w.heap.size
/-- Every number is one of 64 bits. -/
def AllU (zs : List Int) : Prop := ∀ i, 0 ≤ zs.getD i 0 ∧ zs.getD i 0 ≤ 18446744073709551615
theorem RowU.keep {S : Nat → Prop} {w w' : World} {b : Nat} {zs : List Int} (h : RowU w b zs) (k : Keep S w w') (hn : ¬ S b) : RowU w' b zs :=
  ⟨fun i hi => k.cell (h.cell i hi) hn, fun i => (k.frozen (a := ⟨b, i, none⟩) h.lt hn).trans (h.free i), Nat.lt_of_lt_of_le h.lt k.size⟩
theorem RowU.set {w : World} {b : Nat} {zs : List Int} (h : RowU w b zs) (i : Nat) (hi : i < zs.length) (x : Int) : RowU (w.setCell ⟨b, i, none⟩ (.int .u64 x)) b (zs.set i x) := by
  refine ⟨fun j hj => ?_, fun j => by simpa using h.free j, by simpa [World.setCell] using h.lt⟩
  rw [List.length_set] at hj
  by_cases e : i = j
  · subst e
    rw [World.cell?_setCell_same _ _ _ (h.cell i hi)]
    simp [List.getD_eq_getElem?_getD, hi]
  · rw [World.cell?_setCell_other _ _ _ _ (by simp), h.cell j hj]
    simp [List.getD_eq_getElem?_getD, e]
theorem AllU.set {zs : List Int} (h : AllU zs) (i : Nat) {x : Int} (h0 : 0 ≤ x) (h1 : x ≤ 18446744073709551615) : AllU (zs.set i x) := by
  intro j
  simp only [List.getD_eq_getElem?_getD, List.getElem?_set]
  split
  · split
    · simpa using ⟨h0, h1⟩
    · simp
  · have := h j; rwa [List.getD_eq_getElem?_getD] at this
/-- Only the blocks S, and new ones, have turned; it now lies in S'. -/
def VKeep (S S' : Nat → Prop) (w w' : World) : Prop := Keep S w w' ∧ ∀ k, S' k → S k ∨ w.heap.size ≤ k
theorem drewN_keep (S : Nat → Prop) (w : World) (d : Nat) : Keep S w (w.drewN d) := ⟨rfl, rfl, rfl, Nat.le_refl _, fun _ _ _ => rfl⟩
/-- Where the walk is to stand still: at the operation that fills slot n. -/
theorem wp_stop (n : Nat) {P : Program} {w : World} {ops : Array Oper} {rest : List Oper} {o : Oper} {a : Act} {Q : Exit → Act → World → Prop} (hd : o.dst = some n) (h : True → wpList P ops Q (o :: rest) a w) : wpList P ops Q (o :: rest) a w := h trivial
def U64 (x : Int) : Prop := 0 ≤ x ∧ x ≤ 18446744073709551615
end Go.Proofs.YtmfpjnlplimkeaaGreat
/- What a Store of versions is in plain lists, and what each call of layer 6 answers and leaves; no dump; no condition. c: how often its words may have been looked at, at most (an Arena counts). -/
namespace Go.Proofs.YtmfpjnlplimkeaaGreat
open Go.ChangeShapes Go.WideShapes Go.ChangeAt Go.RowKit
set_option linter.unusedVariables false

structure Ver where
  k : Int
  v : Int
  b : Int
  e : Int
  n : Int
structure RS where
  s : St
  r : List Ver
  c : Int
def RS.ver (s : RS) (i : Nat) : Ver := s.r.getD i ⟨0, 0, 0, 0, 0⟩
/-- The slot that a link names. -/
def slotOf (l : Int) : Nat := (l % 131072 - 1).toNat
def RS.tick (s : RS) : RS := { s with c := s.c + 64 }
def RS.put (s : RS) (i : Nat) (x : Ver) : RS := { s with r := s.r.set i x, c := s.c + 64 }
/-- The slot that is taken next; the Pool behind it; the Pool behind a slot's return. -/
def St.top (s : St) : Option Nat := match s.given.getLast? with
  | some g => some g.toNat
  | none => if s.fresh < s.tags.length then some s.fresh.toNat else none
def St.took (s : St) : St := match s.given.getLast? with
  | some g => { s with taken := s.taken.set g.toNat true, given := s.given.dropLast }
  | none => { s with taken := s.taken.set s.fresh.toNat true, fresh := s.fresh + 1 }
def St.gave (s : St) (i : Nat) : St := if s.tag i = s.most then { s with taken := s.taken.set i false, worn := s.worn + 1 } else { s with taken := s.taken.set i false, tags := s.tags.set i (s.tag i + 1), given := s.given ++ [(i : Int)] }
def RS.make (s : RS) (k v b e : Int) : Int × Int × RS :=
  if k < 0 ∨ 63 < k ∨ v < 0 ∨ 65535 < v then (0, 1, s.tick) else match s.s.top with
    | none => (0, 15, s.tick)
    | some i => (s.s.link i, 0, ⟨s.s.took, s.r.set i ⟨k, v, b, e, 0⟩, s.c + 64⟩)
def RS.free (s : RS) (l : Int) : Int × RS := if s.s.live l = true then (0, ⟨s.s.gave (slotOf l), s.r, s.c + 64⟩) else (8, s.tick)
def RS.set (s : RS) (l v : Int) : Int × RS :=
  if s.s.live l = true then (if v < 0 ∨ 65535 < v then (1, s.tick) else (0, s.put (slotOf l) { s.ver (slotOf l) with v := v })) else (8, s.tick)
def RS.next (s : RS) (l t : Int) : Int × RS := if s.s.live l = true then (0, s.put (slotOf l) { s.ver (slotOf l) with n := t }) else (8, s.tick)
def RS.begin (s : RS) (l o n : Int) : Bool × RS := if s.s.live l = true ∧ (s.ver (slotOf l)).b = o then (true, s.put (slotOf l) { s.ver (slotOf l) with b := n }) else (false, s.tick)
def RS.stop (s : RS) (l o n : Int) : Bool × RS := if s.s.live l = true ∧ (s.ver (slotOf l)).e = o then (true, s.put (slotOf l) { s.ver (slotOf l) with e := n }) else (false, s.tick)
def RS.links (s : RS) : List Int := allTo s.s s.s.tags.length
def RS.used (s : RS) : Int := cnt s.s.taken
def RS.new (n : Nat) : RS := ⟨St.new n 65535, List.replicate n ⟨0, 0, 0, 0, 0⟩, 64⟩
structure VOk (x : Ver) : Prop where
  k0 : 0 ≤ x.k
  k1 : x.k ≤ 63
  v0 : 0 ≤ x.v
  v1 : x.v ≤ 65535
  b : U64 x.b
  e : U64 x.e
  n : U64 x.n
structure ROk (s : RS) : Prop where
  p : Ok s.s
  m : s.s.most = 65535
  l : s.r.length = s.s.tags.length
  v : ∀ i, VOk (s.ver i)
  c0 : 0 ≤ s.c
theorem RS.ver_set (s : RS) (i j : Nat) (x : Ver) (h : i < s.r.length) : (s.r.set i x).getD j ⟨0, 0, 0, 0, 0⟩ = if i = j then x else s.ver j := by
  simp only [RS.ver, List.getD_eq_getElem?_getD, List.getElem?_set]
  by_cases e : i = j
  · subst e; simp [h]
  · simp [e]
theorem RS.ver_put (s : RS) (i j : Nat) (x : Ver) (h : i < s.r.length) : (s.put i x).ver j = if i = j then x else s.ver j := RS.ver_set s i j x h
theorem vOk0 : VOk ⟨0, 0, 0, 0, 0⟩ := ⟨by simp, by simp, by simp, by simp, by simp [U64], by simp [U64], by simp [U64]⟩
theorem ROk.tick {s : RS} (h : ROk s) : ROk s.tick := ⟨h.p, h.m, h.l, h.v, by have := h.c0; simp [RS.tick]; omega⟩
theorem ROk.put {s : RS} (h : ROk s) {i : Nat} (hi : i < s.s.tags.length) {x : Ver} (hx : VOk x) : ROk (s.put i x) := by
  refine ⟨h.p, h.m, by simpa [RS.put] using h.l, fun j => ?_, by have := h.c0; simp [RS.put]; omega⟩
  rw [RS.ver_put s i j x (by rw [h.l]; exact hi)]
  split
  · exact hx
  · exact h.v j
theorem rOk_new (n : Nat) (h0 : 1 ≤ n) (h1 : n ≤ 4096) : ROk (RS.new n) :=
  ⟨ok_new n 65535 h0 h1 (by omega) (by omega), rfl, by simp [RS.new, St.new], fun i => by simp only [RS.ver, RS.new, getD_rep]; exact vOk0, by simp [RS.new]⟩
/-- What is taken next, in the two ways. -/
theorem top_cases {s : St} (ok : Ok s) : (s.top = none ∧ s.given = [] ∧ s.fresh = s.tags.length) ∨
    (∃ i gs, s.top = some i ∧ s.given = gs ++ [(i : Int)] ∧ s.took = { s with taken := s.taken.set i true, given := gs } ∧ i < s.tags.length ∧ s.tk i = false) ∨
    (∃ i : Nat, s.top = some i ∧ s.given = [] ∧ s.fresh = i ∧ s.took = { s with taken := s.taken.set i true, fresh := (i : Int) + 1 } ∧ i < s.tags.length ∧ s.tk i = false) := by
  have f0 := ok.f0
  have f1 := ok.f1
  rcases List.eq_nil_or_concat s.given with hg | ⟨gs, g, hg⟩
  · by_cases hf : s.fresh = s.tags.length
    · exact .inl ⟨by simp [St.top, hg, hf], hg, hf⟩
    · refine .inr (.inr ⟨s.fresh.toNat, by simp [St.top, hg]; omega, hg, by omega, ?_, by omega, ok.ft _ (by omega)⟩)
      simp [St.took, hg]
      omega
  · have hg : s.given = gs ++ [g] := by simpa using hg
    have hm := ok.gv g (by rw [hg]; simp)
    refine .inr (.inl ⟨g.toNat, gs, by simp [St.top, hg], by rw [hg]; simp; omega, by simp [St.took, hg], by omega, hm.2.2⟩)
theorem ok_took {s : St} (ok : Ok s) {i : Nat} (h : s.top = some i) : i < s.tags.length ∧ s.tk i = false ∧ Ok s.took ∧ s.took.tags = s.tags ∧ s.took.taken = s.taken.set i true ∧ s.took.most = s.most := by
  rcases top_cases ok with ⟨h1, _⟩ | ⟨j, gs, h1, hg, ht, hj, hk⟩ | ⟨j, h1, hg, hf, ht, hj, hk⟩
  · rw [h] at h1; cases h1
  · rw [h] at h1; cases h1
    rw [ht]
    exact ⟨hj, hk, (ok_takeGiven ok hg).2.2, rfl, rfl, rfl⟩
  · rw [h] at h1; cases h1
    rw [ht]
    exact ⟨hj, hk, (ok_takeFresh ok hf hj).2, rfl, rfl, rfl⟩
theorem slot_live {s : St} {l : Int} (h : s.live l = true) : slotOf l < s.tags.length ∧ s.tk (slotOf l) = true ∧ l = s.link (slotOf l) := by
  obtain ⟨i, hi, ht, hl, hm⟩ := (live_iff _ _).1 h
  have e : slotOf l = i := by unfold slotOf; omega
  rw [e]
  exact ⟨hi, ht, hl⟩
theorem slot_link (s : St) (i : Nat) (hi : i < 4096) : slotOf (s.link i) = i := by unfold slotOf; rw [link_mod s i hi]; omega
theorem ok_gave {s : St} (ok : Ok s) {i : Nat} (hi : i < s.tags.length) (ht : s.tk i = true) : Ok (s.gave i) := by
  have tg := ok.tg i
  unfold St.gave
  split
  · exact ok_wear ok hi ht
  · exact ok_give ok hi ht (by omega)
theorem gave_parts (s : St) (i : Nat) : (s.gave i).tags.length = s.tags.length ∧ (s.gave i).taken = s.taken.set i false ∧ (s.gave i).most = s.most ∧ ∀ j, j ≠ i → (s.gave i).tag j = s.tag j := by
  unfold St.gave
  split
  · exact ⟨rfl, rfl, rfl, fun j _ => rfl⟩
  · exact ⟨by simp, rfl, rfl, fun j hj => by simp [St.tag, List.getD_eq_getElem?_getD, Ne.symm hj]⟩
theorem rOk_make {s : RS} (h : ROk s) (k v b e : Int) (hb : U64 b) (he : U64 e) : ROk (s.make k v b e).2.2 := by
  unfold RS.make
  split
  · exact h.tick
  · rename_i hn
    split
    · exact h.tick
    · rename_i i ht
      obtain ⟨hi, hk, ok, e1, e2, e3⟩ := ok_took h.p ht
      refine ⟨ok, by show s.s.took.most = _; rw [e3]; exact h.m, by show (s.r.set i _).length = s.s.took.tags.length; rw [e1, List.length_set]; exact h.l, fun j => ?_, by have := h.c0; simp; omega⟩
      show VOk ((s.r.set i _).getD j _)
      rw [RS.ver_set s i j _ (by rw [h.l]; exact hi)]
      split
      · exact ⟨by simp; omega, by simp; omega, by simp; omega, by simp; omega, hb, he, by simp [U64]⟩
      · exact h.v j
theorem rOk_free {s : RS} (h : ROk s) (l : Int) : ROk (s.free l).2 := by
  unfold RS.free
  split
  · rename_i hl
    obtain ⟨hi, ht, _⟩ := slot_live hl
    obtain ⟨g1, g2, g3, _⟩ := gave_parts s.s (slotOf l)
    exact ⟨ok_gave h.p hi ht, by show (s.s.gave _).most = _; rw [g3]; exact h.m, by show s.r.length = (s.s.gave _).tags.length; rw [g1]; exact h.l, h.v, by have := h.c0; simp; omega⟩
  · exact h.tick
theorem rOk_set {s : RS} (h : ROk s) (l v : Int) : ROk (s.set l v).2 := by
  unfold RS.set
  split
  · rename_i hl
    split
    · exact h.tick
    · have x := h.v (slotOf l)
      exact h.put (slot_live hl).1 ⟨x.k0, x.k1, by simp; omega, by simp; omega, x.b, x.e, x.n⟩
  · exact h.tick
theorem rOk_next {s : RS} (h : ROk s) (l t : Int) (ht : U64 t) : ROk (s.next l t).2 := by
  unfold RS.next
  split
  · rename_i hl
    have x := h.v (slotOf l)
    exact h.put (slot_live hl).1 ⟨x.k0, x.k1, x.v0, x.v1, x.b, x.e, ht⟩
  · exact h.tick
theorem rOk_begin {s : RS} (h : ROk s) (l o n : Int) (hn : U64 n) : ROk (s.begin l o n).2 := by
  unfold RS.begin
  split
  · rename_i hl
    have x := h.v (slotOf l)
    exact h.put (slot_live hl.1).1 ⟨x.k0, x.k1, x.v0, x.v1, hn, x.e, x.n⟩
  · exact h.tick
theorem rOk_stop {s : RS} (h : ROk s) (l o n : Int) (hn : U64 n) : ROk (s.stop l o n).2 := by
  unfold RS.stop
  split
  · rename_i hl
    have x := h.v (slotOf l)
    exact h.put (slot_live hl.1).1 ⟨x.k0, x.k1, x.v0, x.v1, x.b, hn, x.n⟩
  · exact h.tick
/-- However it is answered the count grows alike. -/
theorem make_c (s : RS) (k v b e : Int) : (s.make k v b e).2.2.c = s.c + 64 := by
  unfold RS.make
  split
  · rfl
  · split <;> rfl
theorem free_c (s : RS) (l : Int) : (s.free l).2.c = s.c + 64 := by unfold RS.free; split <;> rfl
theorem set_c (s : RS) (l v : Int) : (s.set l v).2.c = s.c + 64 := by
  unfold RS.set
  split
  · split <;> rfl
  · rfl
theorem next_c (s : RS) (l t : Int) : (s.next l t).2.c = s.c + 64 := by unfold RS.next; split <;> rfl
theorem begin_c (s : RS) (l o n : Int) : (s.begin l o n).2.c = s.c + 64 := by unfold RS.begin; split <;> rfl
theorem stop_c (s : RS) (l o n : Int) : (s.stop l o n).2.c = s.c + 64 := by unfold RS.stop; split <;> rfl
theorem make_b {s : RS} (h : ROk s) (k v b e : Int) : 0 ≤ (s.make k v b e).1 ∧ (s.make k v b e).1 ≤ 8589934592 ∧ 0 ≤ (s.make k v b e).2.1 ∧ (s.make k v b e).2.1 ≤ 15 := by
  unfold RS.make
  split
  · simp
  · split
    · simp
    · rename_i i ht
      have lb := link_b h.p i (ok_took h.p ht).1
      simp
      omega
end Go.Proofs.YtmfpjnlplimkeaaGreat
/- A slice that the call itself has made: what it holds, element by element; kept where other blocks turn; behind a store. No dump; no condition. -/
namespace Go.Proofs.YtmfpjnlplimkeaaGreat
open Go.ChangeShapes Go.WideShapes Go.ChangeAt Go.RowKit
set_option linter.unusedVariables false

/-- The slice value v is the call's own (or nil) and holds the elements zs, each of one cell, by f; e is the element's type. -/
def Own {α : Type} (f : α → Value) (e : TypeId) (w : World) (v : Value) (zs : List α) : Prop := w.ownsRow 0 e 1 v zs.length (zs.map f)
section
variable {α : Type} {f : α → Value} {e : TypeId} {w w' : World} {v : Value} {zs : List α}
theorem Own.form (h : Own f e w v zs) : (v = .slice none 0 0 ∧ zs = []) ∨ ∃ g c, v = .slice (some ⟨g, 0, none⟩) zs.length c ∧ g < w.heap.size ∧ zs.length ≤ c ∧ c ≤ maxLen := by
  obtain ⟨h1, h2⟩ := id h
  rcases h2 with ⟨h3, h4⟩ | ⟨g, c, cur, hv, _, hh, hc, hm, _⟩
  · exact .inl ⟨h3, List.length_eq_zero_iff.1 h4⟩
  · exact .inr ⟨g, c, hv, lt_of_block hh, hc, hm⟩
theorem Own.lt (h : Own f e w v zs) {g : Nat} (hg : v.ownBlock = some g) : g < w.heap.size := (World.ownsRow.lt h g hg).2
theorem Own.keep {S : Nat → Prop} (h : Own f e w v zs) (k : Keep S w w') (hn : ∀ g, v.ownBlock = some g → ¬ S g) : Own f e w' v zs := by
  obtain ⟨h1, h2⟩ := id h
  refine ⟨h1, ?_⟩
  rcases h2 with h2 | ⟨g, c, cur, hv, hg, hh, r⟩
  · exact .inl h2
  · subst hv
    exact .inr ⟨g, c, cur, rfl, hg, by rw [k.block g (lt_of_block hh) (hn g rfl)]; exact hh, r⟩
theorem Own.cell {g n c : Nat} (h : Own f e w (.slice (some ⟨g, 0, none⟩) n c) zs) (i : Nat) (hi : i < zs.length) : w.cell? ⟨g, i, none⟩ = some (f zs[i]) := by
  have hn : n = zs.length := by
    obtain ⟨h1, h2⟩ := id h
    rcases h2 with ⟨h2, _⟩ | ⟨g', c', cur, hv, _⟩
    · simp at h2
    · simp at hv; exact hv.2.1
  subst hn
  rw [World.ownsRow.cellAt h i (by omega)]
  simp [hi]
theorem Own.free {g n c : Nat} (h : Own f e w (.slice (some ⟨g, 0, none⟩) n c) zs) (i : Nat) : w.frozen? ⟨g, i, none⟩ = false := by
  have hn : n = zs.length := by
    obtain ⟨h1, h2⟩ := id h
    rcases h2 with ⟨h2, _⟩ | ⟨g', c', cur, hv, _⟩
    · simp at h2
    · simp at hv; exact hv.2.1
  subst hn
  exact World.ownsRow.frozenAt h i
theorem Own.set {g n c : Nat} (h : Own f e w (.slice (some ⟨g, 0, none⟩) n c) zs) (i : Nat) (x : α) : Own f e (w.setCell ⟨g, i, none⟩ (f x)) (.slice (some ⟨g, 0, none⟩) n c) (zs.set i x) := by
  have hn : n = zs.length := by
    obtain ⟨h1, h2⟩ := id h
    rcases h2 with ⟨h2, _⟩ | ⟨g', c', cur, hv, _⟩
    · simp at h2
    · simp at hv; exact hv.2.1
  subst hn
  have := World.ownsRow.stored h i (f x)
  unfold Own
  rw [List.length_set, List.map_set]
  exact this.1
theorem Own.nil : Own f e w (.slice none 0 0) ([] : List α) := World.ownsRow_nil _ _ _ _
theorem Own.of_base {base : Nat} {n : Nat} {xs : List Value} (h : w.ownsRow base e 1 v n xs) (hn : n = zs.length) (hx : xs = zs.map f) : Own f e w v zs := by
  subst hn; subst hx
  obtain ⟨h1, h2⟩ := h
  refine ⟨h1, ?_⟩
  rcases h2 with h2 | ⟨g, c, cur, hv, _, r⟩
  · exact .inl h2
  · exact .inr ⟨g, c, cur, hv, Nat.zero_le _, r⟩
/-- A slice of the call's own that is not nil, written out. -/
theorem own_some {base n : Nat} {xs : List Value} (h : w.ownsRow base e 1 v n xs) (hne : v ≠ .slice none 0 0) : ∃ g c, v = .slice (some ⟨g, 0, none⟩) n c ∧ base ≤ g ∧ g < w.heap.size := by
  obtain ⟨_, h2⟩ := h
  rcases h2 with ⟨h2, _⟩ | ⟨g, c, cur, hv, hb, hh, _⟩
  · exact absurd h2 hne
  · exact ⟨g, c, hv, hb, lt_of_block hh⟩
end
/-- Behind a law that ends in 'grownBy': what is written is new. -/
theorem keep_new {w w1 w' : World} {row : Option Nat} (b : Below w.heap.size w w1) (hg : w1.grownBy w' row) (hr : ∀ k, row = some k → w.heap.size ≤ k) : Below w.heap.size w w' := b.grown hg b.size hr
theorem Keep.grown {S : Nat → Prop} {w w1 w' : World} {row : Option Nat} (k : Keep S w w1) (hg : w1.grownBy w' row) (hr : ∀ j, row = some j → w.heap.size ≤ j) : Keep S w w' :=
  ⟨hg.os.trans k.os, hg.tape.trans k.tape, hg.output.trans k.output, Nat.le_trans k.size hg.size, fun j hj hn => (hg.block j (Nat.lt_of_lt_of_le hj k.size) (fun e => by have := hr j e.symm; omega)).trans (k.block j hj hn)⟩
end Go.Proofs.YtmfpjnlplimkeaaGreat
/- Contract of (*sync.Once).Do in one goroutine, for the closure that the package hands to it: not yet done and its lock free: the closure runs once, the Once is done, the lock is free again; done already: nothing. -/
namespace Go.Proofs.YtmfpjnlplimkeaaGreat
open Go.ChangeShapes Go.WideShapes Go.ChangeAt Go.RowKit
set_option linter.unusedVariables false

theorem race_disable (w : World) : (callFunc 97 #[]).run Tryz.prog w = .ok (.value (.tuple #[])) w := run_call_mark0 Tryz.func97 (by kernel_rfl) (by kernel_rfl) (by kernel_rfl) .disable (by kernel_rfl) w
theorem race_enable (w : World) : (callFunc 99 #[]).run Tryz.prog w = .ok (.value (.tuple #[])) w := run_call_mark0 Tryz.func99 (by kernel_rfl) (by kernel_rfl) (by kernel_rfl) .enable (by kernel_rfl) w
theorem race_acquire (a : Addr) (w : World) : (callFunc 100 #[.pointer (some a)]).run Tryz.prog w = .ok (.value (.tuple #[])) w := run_call_marked Tryz.func100 (by kernel_rfl) (by kernel_rfl) (by kernel_rfl) .acquire (by kernel_rfl) a w
theorem race_merge (a : Addr) (w : World) : (callFunc 102 #[.pointer (some a)]).run Tryz.prog w = .ok (.value (.tuple #[])) w := run_call_marked Tryz.func102 (by kernel_rfl) (by kernel_rfl) (by kernel_rfl) .releaseMerge (by kernel_rfl) a w
set_option maxRecDepth 100000 in
theorem bool_store (b o : Nat) (x : Value) (u : FrameMode) (w : World) (hc : w.cell? ⟨b, o, none⟩ = some x) (hz : w.frozen? ⟨b, o, none⟩ = false) :
    CallsD Tryz.prog 84 #[.pointer (some ⟨b, o, none⟩), .bool true] u w fun e u' w' => u' = u ∧ (e = .returned (.tuple #[]) ∧ w' = w.drew.setCell ⟨b, o, none⟩ (.int .u32 1)) := by
  have hc' : w.drew.cell? ⟨b, o, none⟩ = some x := hc
  have hz' : w.drew.frozen? ⟨b, o, none⟩ = false := hz
  have hst := run_call_store (P := Tryz.prog) Tryz.func94 (by kernel_rfl) (by kernel_rfl) (by kernel_rfl) (by kernel_rfl) (k := .u32) (y := 1) hc' hz'
  go_enter_d Tryz.func84, Tryz.ntmps84
  go_wp2
  go_region_calls
  all_goals (go_end0; exact ⟨rfl, rfl⟩)
set_option maxRecDepth 100000 in
theorem mu_unlock (b o : Nat) (u : FrameMode) (w : World) (hc : w.cell? ⟨b, o, none⟩ = some (.int .i32 1)) (hz : w.frozen? ⟨b, o, none⟩ = false) :
    CallsD Tryz.prog 83 #[.pointer (some ⟨b, o, none⟩)] u w fun e u' w' => u' = u ∧ (e = .returned (.tuple #[]) ∧ w' = w.setCell ⟨b, o, none⟩ (.int .i32 0)) := by
  have hd := race_disable
  have he := race_enable
  have hr := race_merge
  have hadd := run_call_add (P := Tryz.prog) Tryz.func103 (by kernel_rfl) (by kernel_rfl) (by kernel_rfl) .i32 (by kernel_rfl) (y := -1) (s := 0) hc hz (by simp [go_sem]; rfl)
  have hcv := run_convert_to_unsafe (P := Tryz.prog) (src := 170) (dst := 174) Tryz.underlying170 Tryz.underlying174 (by kernel_rfl) hc
  go_enter_d Tryz.func83, Tryz.ntmps83
  go_wp2
  go_end0
  go_wp2
  go_end0
  exact ⟨rfl, rfl⟩
set_option maxRecDepth 100000 in
theorem mu_lock (b o : Nat) (w : World) (hc : w.cell? ⟨b, o, none⟩ = some (.int .i32 0)) (hz : w.frozen? ⟨b, o, none⟩ = false) :
    Calls Tryz.prog 82 #[.pointer (some ⟨b, o, none⟩)] w fun e w' => e = .returned (.tuple #[]) ∧ w' = w.setCell ⟨b, o, none⟩ (.int .i32 1) := by
  have hd := race_disable
  have he := race_enable
  have ha := race_acquire
  have hcas := run_call_cas_hit (P := Tryz.prog) Tryz.func98 (by kernel_rfl) (by kernel_rfl) (by kernel_rfl) .i32 (by kernel_rfl) (y := 1) hc hz
  have hc' : (w.setCell ⟨b, o, none⟩ (.int .i32 1)).cell? ⟨b, o, none⟩ = some (.int .i32 1) := World.cell?_setCell_same w _ _ hc
  have hcv := run_convert_to_unsafe (P := Tryz.prog) (src := 170) (dst := 174) Tryz.underlying170 Tryz.underlying174 (by kernel_rfl) hc'
  go_enter Tryz.func82, Tryz.ntmps82
  go_wp2
  first | go_end0 | (simp only [Exit.inBlock, Exit.then]; refine bodyPost_ret (results_none rfl _ _ _) rfl ?_) | refine bodyPost_ret (results_none rfl _ _ _) rfl ?_
  go_wp2
  go_end0
  exact ⟨rfl, rfl⟩
end Go.Proofs.YtmfpjnlplimkeaaGreat
/- Contract of (*sync.Once).Do in one goroutine, for the closure that the package hands to it: not yet done and its lock free: the closure runs once, the Once is done, the lock is free again; done already: nothing. -/
namespace Go.Proofs.YtmfpjnlplimkeaaGreat
open Go.ChangeShapes Go.WideShapes Go.ChangeAt Go.RowKit
set_option linter.unusedVariables false

/-- What the closure leaves: R of its world, the Once's three cells as they were. -/
def Ran (R : World → Prop) (b o : Nat) (e : Ending) (w : World) : Prop :=
  e = .returned (.tuple #[]) ∧ R w ∧ w.cell? ⟨b, o, none⟩ = some (.int .u32 0) ∧ w.cell? ⟨b, o + 1, none⟩ = some (.int .i32 1) ∧ w.frozen? ⟨b, o, none⟩ = false ∧ w.frozen? ⟨b, o + 1, none⟩ = false
def OnceDid (R : World → Prop) (b o : Nat) (e : Ending) (w' : World) : Prop :=
  e = .returned (.tuple #[]) ∧ ∃ w2, R w2 ∧ w' = (w2.drew.setCell ⟨b, o, none⟩ (.int .u32 1)).setCell ⟨b, o + 1, none⟩ (.int .i32 0)
set_option maxRecDepth 100000 in
set_option maxHeartbeats 1600000 in
theorem once_slow (b o : Nat) (caps : Array Value) (R : World → Prop) (w : World)
    (h0 : w.cell? ⟨b, o, none⟩ = some (.int .u32 0)) (h1 : w.cell? ⟨b, o + 1, none⟩ = some (.int .i32 0)) (f1 : w.frozen? ⟨b, o + 1, none⟩ = false)
    (hF : Calls Tryz.prog 48 caps (w.setCell ⟨b, o + 1, none⟩ (.int .i32 1)) (Ran R b o)) :
    Calls Tryz.prog 63 #[.pointer (some ⟨b, o, none⟩), .func (.func 48) caps #[]] w (OnceDid R b o) := by
  -- ntmps48
  have hl := run_call_load (P := Tryz.prog) Tryz.func81 (by kernel_rfl) (by kernel_rfl) (by kernel_rfl) .u32 (by kernel_rfl) (w := w.setCell ⟨b, o + 1, none⟩ (.int .i32 1)) (a := ⟨b, o, none⟩) (x := 0) ((World.cell?_setCell_other _ ⟨b, o + 1, none⟩ ⟨b, o, none⟩ _ (by simp)).trans h0)
  have hnot : ∀ (x : Bool) (w : World), (Op.unary .not (.bool x)).run Tryz.prog w = .ok (.bool (!x)) w := fun _ _ => rfl
  go_enter_defers Tryz.func63, Tryz.ntmps63
  go_wp2_with (first | (go_at_call 82; refine (mu_lock b (o + 1) _ h1 f1).mono ?_; rintro e w' ⟨rfl, rfl⟩) | (go_at_call 62; go_in))
  refine hF.mono ?_
  rintro e w2 ⟨rfl, hR, d0, d1, e0, e1⟩
  go_wp2
  refine leaves_cons (f := 84) (args := #[.pointer (some ⟨b, o, none⟩), .bool true]) (by simp) (by simp [go_sem]) ?_
  refine (bool_store b o (.int .u32 0) .returning w2 d0 e0).mono ?_
  rintro e u' w'' ⟨rfl, rfl, rfl⟩
  refine leaves_cons (f := 83) (args := #[.pointer (some ⟨b, o + 1, none⟩)]) (by simp [settle]) (by simp [go_sem]) ?_
  refine (mu_unlock b (o + 1) _ _ ?_ ?_).mono ?_
  · exact (World.cell?_setCell_other _ ⟨b, o, none⟩ ⟨b, o + 1, none⟩ _ (by simp)).trans d1
  · simpa using e1
  rintro e u' w'' ⟨rfl, rfl, rfl⟩
  simp [Leaves, settle, results, Tryz.results63]
  exact ⟨rfl, w2, hR, rfl⟩
theorem once_first (b o : Nat) (caps : Array Value) (R : World → Prop) (w : World)
    (h0 : w.cell? ⟨b, o, none⟩ = some (.int .u32 0)) (h1 : w.cell? ⟨b, o + 1, none⟩ = some (.int .i32 0)) (f1 : w.frozen? ⟨b, o + 1, none⟩ = false)
    (hF : Calls Tryz.prog 48 caps (w.setCell ⟨b, o + 1, none⟩ (.int .i32 1)) (Ran R b o)) :
    Calls Tryz.prog 47 #[.pointer (some ⟨b, o, none⟩), .func (.func 48) caps #[]] w (OnceDid R b o) := by
  -- ntmps48
  have hl := run_call_load (P := Tryz.prog) Tryz.func81 (by kernel_rfl) (by kernel_rfl) (by kernel_rfl) .u32 (by kernel_rfl) h0
  have hnot : ∀ (x : Bool) (w : World), (Op.unary .not (.bool x)).run Tryz.prog w = .ok (.bool (!x)) w := fun _ _ => rfl
  have hS := once_slow b o caps R w h0 h1 f1 hF
  clear hF
  go_enter Tryz.func47, Tryz.ntmps47
  go_wp2_with (first | (go_at_call 63; refine hS.mono ?_; rintro e w' ⟨rfl, hD⟩) | (go_at_call 62; go_in))
  go_end0
  exact ⟨rfl, hD⟩
set_option maxRecDepth 100000 in
set_option maxHeartbeats 1600000 in
theorem once_slowH (b o : Nat) (caps : Array Value) (R : World → Prop) (w : World)
    (h0 : w.cell? ⟨b, o, none⟩ = some (.int .u32 0)) (h1 : w.cell? ⟨b, o + 1, none⟩ = some (.int .i32 0)) (f1 : w.frozen? ⟨b, o + 1, none⟩ = false)
    (hF : Calls Tryz.prog 59 caps (w.setCell ⟨b, o + 1, none⟩ (.int .i32 1)) (Ran R b o)) :
    Calls Tryz.prog 63 #[.pointer (some ⟨b, o, none⟩), .func (.func 59) caps #[]] w (OnceDid R b o) := by
  -- ntmps59
  have hl := run_call_load (P := Tryz.prog) Tryz.func81 (by kernel_rfl) (by kernel_rfl) (by kernel_rfl) .u32 (by kernel_rfl) (w := w.setCell ⟨b, o + 1, none⟩ (.int .i32 1)) (a := ⟨b, o, none⟩) (x := 0) ((World.cell?_setCell_other _ ⟨b, o + 1, none⟩ ⟨b, o, none⟩ _ (by simp)).trans h0)
  have hnot : ∀ (x : Bool) (w : World), (Op.unary .not (.bool x)).run Tryz.prog w = .ok (.bool (!x)) w := fun _ _ => rfl
  go_enter_defers Tryz.func63, Tryz.ntmps63
  go_wp2_with (first | (go_at_call 82; refine (mu_lock b (o + 1) _ h1 f1).mono ?_; rintro e w' ⟨rfl, rfl⟩) | (go_at_call 62; go_in))
  refine hF.mono ?_
  rintro e w2 ⟨rfl, hR, d0, d1, e0, e1⟩
  go_wp2
  refine leaves_cons (f := 84) (args := #[.pointer (some ⟨b, o, none⟩), .bool true]) (by simp) (by simp [go_sem]) ?_
  refine (bool_store b o (.int .u32 0) .returning w2 d0 e0).mono ?_
  rintro e u' w'' ⟨rfl, rfl, rfl⟩
  refine leaves_cons (f := 83) (args := #[.pointer (some ⟨b, o + 1, none⟩)]) (by simp [settle]) (by simp [go_sem]) ?_
  refine (mu_unlock b (o + 1) _ _ ?_ ?_).mono ?_
  · exact (World.cell?_setCell_other _ ⟨b, o, none⟩ ⟨b, o + 1, none⟩ _ (by simp)).trans d1
  · simpa using e1
  rintro e u' w'' ⟨rfl, rfl, rfl⟩
  simp [Leaves, settle, results, Tryz.results63]
  exact ⟨rfl, w2, hR, rfl⟩
theorem once_firstH (b o : Nat) (caps : Array Value) (R : World → Prop) (w : World)
    (h0 : w.cell? ⟨b, o, none⟩ = some (.int .u32 0)) (h1 : w.cell? ⟨b, o + 1, none⟩ = some (.int .i32 0)) (f1 : w.frozen? ⟨b, o + 1, none⟩ = false)
    (hF : Calls Tryz.prog 59 caps (w.setCell ⟨b, o + 1, none⟩ (.int .i32 1)) (Ran R b o)) :
    Calls Tryz.prog 47 #[.pointer (some ⟨b, o, none⟩), .func (.func 59) caps #[]] w (OnceDid R b o) := by
  -- ntmps59
  have hl := run_call_load (P := Tryz.prog) Tryz.func81 (by kernel_rfl) (by kernel_rfl) (by kernel_rfl) .u32 (by kernel_rfl) h0
  have hnot : ∀ (x : Bool) (w : World), (Op.unary .not (.bool x)).run Tryz.prog w = .ok (.bool (!x)) w := fun _ _ => rfl
  have hS := once_slowH b o caps R w h0 h1 f1 hF
  clear hF
  go_enter Tryz.func47, Tryz.ntmps47
  go_wp2_with (first | (go_at_call 63; refine hS.mono ?_; rintro e w' ⟨rfl, hD⟩) | (go_at_call 62; go_in))
  go_end0
  exact ⟨rfl, hD⟩
theorem once_done (b o : Nat) (fv : Value) (w : World) (h0 : w.cell? ⟨b, o, none⟩ = some (.int .u32 1)) :
    Calls Tryz.prog 47 #[.pointer (some ⟨b, o, none⟩), fv] w fun e w' => e = .returned (.tuple #[]) ∧ w = w' := by
  have hl := run_call_load (P := Tryz.prog) Tryz.func81 (by kernel_rfl) (by kernel_rfl) (by kernel_rfl) .u32 (by kernel_rfl) h0
  have hnot : ∀ (x : Bool) (w : World), (Op.unary .not (.bool x)).run Tryz.prog w = .ok (.bool (!x)) w := fun _ _ => rfl
  go_enter Tryz.func47, Tryz.ntmps47
  go_wp2_with (go_at_call 62; go_in)
  go_end0
  exact ⟨rfl, rfl⟩
end Go.Proofs.YtmfpjnlplimkeaaGreat
/- Contracts of package arena, but for Words and Copy: what New, access, Load, Store, CAS, Add, Count and Len return and what becomes of the Arena; conditions: the Arena is one that New made, each number fits its kind. -/
namespace Go.Proofs.YtmfpjnlplimkeaaGreat
open Go.ChangeShapes Go.WideShapes Go.ChangeAt Go.RowKit
set_option linter.unusedVariables false

/-- An Arena at block p: its words zs in block q, its count c. -/
structure Ar (w : World) (p q : Nat) (zs : List Int) (c : Int) : Prop where
  sl : w.cell? ⟨p, 0, none⟩ = some (.slice (some ⟨q, 0, none⟩) zs.length zs.length)
  cn : w.cell? ⟨p, 1, none⟩ = some (.int .i64 c)
  fc : ∀ i, w.frozen? ⟨p, i, none⟩ = false
  ws : RowU w q zs
  ne : p ≠ q
  len : zs.length ≤ 100000
  all : AllU zs
def Two (p q : Nat) (k : Nat) : Prop := k = p ∨ k = q
theorem two_ge {B p q : Nat} (hp : B ≤ p) (hq : B ≤ q) : ∀ k, Two p q k → B ≤ k := fun k h => by rcases h with h | h <;> omega

theorem Ar.keep {S : Nat → Prop} {w w' : World} {p q : Nat} {zs : List Int} {c : Int} (h : Ar w p q zs c) (k : Keep S w w') (hp : ¬ S p) (hq : ¬ S q) : Ar w' p q zs c :=
  ⟨k.cell h.sl hp, k.cell h.cn hp, fun i => (k.frozen (a := ⟨p, i, none⟩) (lt_of_cell (a := ⟨p, 0, none⟩) h.sl) hp).trans (h.fc i), h.ws.keep k hq, h.ne, h.len, h.all⟩
theorem Ar.lt {w : World} {p q : Nat} {zs : List Int} {c : Int} (h : Ar w p q zs c) : p < w.heap.size := lt_of_cell h.sl
theorem Ar.count {w : World} {p q : Nat} {zs : List Int} {c : Int} (h : Ar w p q zs c) (d : Int) : Ar (w.setCell ⟨p, 1, none⟩ (.int .i64 d)) p q zs d := by
  have hq : (⟨q, 0, none⟩ : Addr).block ≠ p := fun e => h.ne e.symm
  refine ⟨?_, World.cell?_setCell_same _ _ _ h.cn, fun i => ?_, ⟨fun i hi => ?_, fun i => ?_, by simpa [World.setCell] using h.ws.lt⟩, h.ne, h.len, h.all⟩
  · rw [World.cell?_setCell_other _ _ _ _ (by simp)]; exact h.sl
  · simpa using h.fc i
  · rw [World.cell?_setCell_other _ _ _ _ (by simp; intro e; exact absurd e h.ne)]; exact h.ws.cell i hi
  · simpa using h.ws.free i
theorem Ar.set {w : World} {p q : Nat} {zs : List Int} {c : Int} (h : Ar w p q zs c) (i : Nat) (hi : i < zs.length) {x : Int} (h0 : 0 ≤ x) (h1 : x ≤ 18446744073709551615) : Ar (w.setCell ⟨q, i, none⟩ (.int .u64 x)) p q (zs.set i x) c := by
  refine ⟨?_, ?_, fun i => by simpa using h.fc i, h.ws.set i hi x, h.ne, by simpa using h.len, h.all.set i h0 h1⟩
  · rw [World.cell?_setCell_other _ _ _ _ (by simp; intro e; exact absurd e.symm h.ne), List.length_set]; exact h.sl
  · rw [World.cell?_setCell_other _ _ _ _ (by simp; intro e; exact absurd e.symm h.ne)]; exact h.cn

theorem aload_any (a : Addr) (x : Int) (w : World) (hc : w.cell? a = some (.int .u64 x)) (hn : a.spot = none) :
    Calls Tryz.prog 56 #[.pointer (some a)] w fun e w' => e = .returned (.int .u64 x) ∧ w = w' := by
  have hl := run_call_load (P := Tryz.prog) Tryz.func68 (by kernel_rfl) (by kernel_rfl) (by kernel_rfl) .u64 (by kernel_rfl) hc
  obtain ⟨b, o, s⟩ := a
  obtain rfl : s = none := hn
  go_enter Tryz.func56, Tryz.ntmps56
  go_wp2
  go_ret
  exact ⟨rfl, rfl⟩
theorem astore_any (a : Addr) (u : Value) (x : Int) (w : World) (hc : w.cell? a = some u) (hz : w.frozen? a = false) (hn : a.spot = none) :
    Calls Tryz.prog 53 #[.pointer (some a), .int .u64 x] w fun e w' => e = .returned (.tuple #[]) ∧ w' = w.setCell a (.int .u64 x) := by
  have hl := run_call_store (P := Tryz.prog) Tryz.func66 (by kernel_rfl) (by kernel_rfl) (by kernel_rfl) (by kernel_rfl) (k := .u64) (y := x) hc hz
  obtain ⟨b, o, s⟩ := a
  obtain rfl : s = none := hn
  go_enter Tryz.func53, Tryz.ntmps53
  go_wp2
  go_end0
  exact ⟨rfl, rfl⟩
theorem acas_hit (a : Addr) (x y : Int) (w : World) (hc : w.cell? a = some (.int .u64 x)) (hz : w.frozen? a = false) (hn : a.spot = none) :
    Calls Tryz.prog 55 #[.pointer (some a), .int .u64 x, .int .u64 y] w fun e w' => e = .returned (.bool true) ∧ w' = w.setCell a (.int .u64 y) := by
  have hl := run_call_cas_hit (P := Tryz.prog) Tryz.func67 (by kernel_rfl) (by kernel_rfl) (by kernel_rfl) .u64 (by kernel_rfl) (y := y) hc hz
  obtain ⟨b, o, s⟩ := a
  obtain rfl : s = none := hn
  go_enter Tryz.func55, Tryz.ntmps55
  go_wp2
  go_ret
  exact ⟨rfl, rfl⟩
theorem acas_miss (a : Addr) (x o y : Int) (w : World) (hc : w.cell? a = some (.int .u64 x)) (hz : w.frozen? a = false) (hn : a.spot = none) (hne : ¬ x = o) :
    Calls Tryz.prog 55 #[.pointer (some a), .int .u64 o, .int .u64 y] w fun e w' => e = .returned (.bool false) ∧ w = w' := by
  have hl := run_call_cas_miss (P := Tryz.prog) Tryz.func67 (by kernel_rfl) (by kernel_rfl) (by kernel_rfl) .u64 (by kernel_rfl) (o := o) (y := y) hc hz hne
  obtain ⟨b, f, s⟩ := a
  obtain rfl : s = none := hn
  go_enter Tryz.func55, Tryz.ntmps55
  go_wp2
  go_ret
  exact ⟨rfl, rfl⟩
/-- The sum of 64 bits. -/
def addU (x y : Int) : Int := (x + y) % 18446744073709551616
theorem addU_b (x y : Int) : 0 ≤ addU x y ∧ addU x y ≤ 18446744073709551615 := by unfold addU; omega
theorem wrapU (x y : Int) : IntKind.u64.wrap (x + y) = addU x y := by rw [IntKind.wrap_u64]; rfl
theorem cadd_any (a : Addr) (x : Int) (w : World) (hc : w.cell? a = some (.int .i64 x)) (hz : w.frozen? a = false) (hn : a.spot = none) (h0 : 0 ≤ x) (h1 : x < 9223372036854775807) :
    Calls Tryz.prog 65 #[.pointer (some a), .int .i64 1] w fun e w' => e = .returned (.int .i64 (x + 1)) ∧ w' = w.setCell a (.int .i64 (x + 1)) := by
  have hs : (Op.intArith .add .i64 x 1).run Tryz.prog w = .ok (.int .i64 (x + 1)) w := by
    simp [go_sem, IntKind.wrap_i64]
    omega
  have hl := run_call_add (P := Tryz.prog) Tryz.func85 (by kernel_rfl) (by kernel_rfl) (by kernel_rfl) .i64 (by kernel_rfl) hc hz hs
  clear hs
  obtain ⟨b, o, s⟩ := a
  obtain rfl : s = none := hn
  go_enter Tryz.func65, Tryz.ntmps65
  go_wp2
  go_ret
  exact ⟨rfl, rfl⟩
theorem access_in (p q : Nat) (zs : List Int) (c : Int) (i : Nat) (w : World) (h : Ar w p q zs c) (hi : i < zs.length) (h0 : 0 ≤ c) (h1 : c < 9223372036854775807) :
    Calls Tryz.prog 52 #[.pointer (some ⟨p, 0, none⟩), .int .i64 i] w fun e w' => e = .returned (.pointer (some ⟨q, i, none⟩)) ∧ w' = w.setCell ⟨p, 1, none⟩ (.int .i64 (c + 1)) := by
  have hs := h.sl
  have hl := h.len
  have hc1 := h.cn
  have hf := h.fc 1
  have hs' := (h.count (c + 1)).sl
  go_enter Tryz.func52, Tryz.ntmps52
  go_wp2_with (go_at_call 65; refine (cadd_any _ c _ hc1 hf rfl h0 h1).mono ?_; rintro e w' ⟨rfl, rfl⟩)
  go_ret
  exact ⟨rfl, rfl⟩
theorem access_no (p q : Nat) (zs : List Int) (c : Int) (i : Int) (w : World) (h : Ar w p q zs c) (hi : i < 0 ∨ zs.length ≤ i) :
    Calls Tryz.prog 52 #[.pointer (some ⟨p, 0, none⟩), .int .i64 i] w fun e w' => e = .returned (.pointer none) ∧ w = w' := by
  have hs := h.sl
  have hl := h.len
  rcases hi with hi | hi
  · go_enter Tryz.func52, Tryz.ntmps52
    go_wp2
    go_ret
    exact ⟨rfl, rfl⟩
  · have hn : ¬ i < 0 := by omega
    go_enter Tryz.func52, Tryz.ntmps52
    go_wp2
    go_ret
    exact ⟨rfl, rfl⟩
end Go.Proofs.YtmfpjnlplimkeaaGreat
/- Contracts of the methods of an Arena that touch one word or none (New, Len, Load, Store, CAS, Add, Count): at a place that is a word, and at one that is none; conditions: the Arena is one that New made, each number fits its kind. -/
namespace Go.Proofs.YtmfpjnlplimkeaaGreat
open Go.ChangeShapes Go.WideShapes Go.ChangeAt Go.RowKit
set_option linter.unusedVariables false

def NewPost (n : Nat) (w : World) (e : Ending) (w' : World) : Prop :=
  ∃ p q, e = .returned (.tuple #[.pointer (some ⟨p, 0, none⟩), .int .i64 0]) ∧ Ar w' p q (List.replicate n 0) 0 ∧ w.heap.size ≤ p ∧ w.heap.size ≤ q ∧ Below w.heap.size w w'
/-- The value v, and an Arena at p, q that now holds zs and has counted to c; nothing else has turned. -/
def Post (v : Value) (p q : Nat) (zs : List Int) (c : Int) (w : World) (e : Ending) (w' : World) : Prop :=
  e = .returned v ∧ Ar w' p q zs c ∧ Keep (Two p q) w w'
theorem info_atomic : (Tryz.prog.info? 137).map (fun i => (i.zero, i.size, i.bytes)) = some (some (.agg #[.int .u64 0]), 1, 8) := by kernel_rfl
theorem allU_zero (n : Nat) : AllU (List.replicate n 0) := by
  intro i
  rw [List.getD_eq_getElem?_getD, List.getElem?_replicate]
  split <;> simp
theorem getD_zero (n i : Nat) : (List.replicate n (0 : Int)).getD i 0 = 0 := by
  rw [List.getD_eq_getElem?_getD, List.getElem?_replicate]
  split <;> simp
/-- A row that a make has just laid is a row of zeros. -/
theorem rowU_made {w : World} {base g n cap : Nat} {t : TypeId} (h : w.ownsRow base t 1 (.slice (some ⟨g, 0, none⟩) n cap) n (madeCells #[.int .u64 0] n).toList) : RowU w g (List.replicate n 0) := by
  have hl : g < w.heap.size := (h.lt g rfl).2
  rw [toList_madeCells_one] at h
  refine ⟨fun i hi => ?_, fun i => h.frozenAt i, hl⟩
  simp only [List.length_replicate] at hi
  rw [h.cellAt i (by omega), getD_zero, List.getElem?_replicate, if_pos hi]
theorem keep_grown {w w' : World} (h : w.grownBy w' none) (S : Nat → Prop) : Keep S w w' := ⟨h.os, h.tape, h.output, h.size, fun k hk _ => h.block k hk (by simp)⟩
theorem new_no (n : Int) (w : World) (h : n < 1 ∨ 100000 < n) : Calls Tryz.prog 22 #[.int .i64 n] w fun e w' => e = .returned (.tuple #[.pointer none, .int .i64 1]) ∧ w = w' := by
  by_cases h1 : n < 1
  · go_enter Tryz.func22, Tryz.ntmps22
    go_wp2
    go_ret2
    exact ⟨rfl, rfl⟩
  · have h2 : 100000 < n := by omega
    go_enter Tryz.func22, Tryz.ntmps22
    go_wp2
    go_ret2
    exact ⟨rfl, rfl⟩
set_option maxRecDepth 100000 in
theorem new_ok (n : Nat) (w : World) (h0 : 1 ≤ n) (h1 : n ≤ 100000) : Calls Tryz.prog 22 #[.int .i64 n] w (NewPost n w) := by
  obtain ⟨i0, hi, hz0, hz1, hz2⟩ := info_parts info_atomic
  go_enter Tryz.func22, Tryz.ntmps22
  go_wp2_with (with_reducible refine wpList_make_full _ rfl (.tmp 10) (.tmp 10) 106 rfl w.heap.size 137 i0 _ 1 Tryz.underlying106 hi hz0 hz1 .i64 .i64 (n : Int) (n : Int) n rfl rfl rfl rfl (by rw [hz2]; omega) (by unfold maxLen; omega) (Nat.le_refl _) ?_)
  intro w1 h1 g1
  have r1 := rowU_made h1
  have k1 := keep_grown g1 (fun _ => False)
  have hlt := r1.lt
  clear h1 g1
  go_wp2
  go_ret2
  refine ⟨w1.heap.size, w.heap.size, rfl, ?_, k1.size, Nat.le_refl _, ?_⟩
  · refine ⟨?_, ?_, ?_, r1.keep ((Keep.refl (fun _ => False) _).alloc _) (by simp), by omega, by simpa using by omega, allU_zero n⟩
    · simp
    · simp
    · intro i; simp
  · exact (k1.alloc _).below (Nat.le_refl _) (by simp)
theorem len_any (p q : Nat) (zs : List Int) (c : Int) (w : World) (h : Ar w p q zs c) : Calls Tryz.prog 60 #[.pointer (some ⟨p, 0, none⟩)] w fun e w' => e = .returned (.int .i64 zs.length) ∧ w = w' := by
  have hs := h.sl
  go_enter Tryz.func60, Tryz.ntmps60
  go_wp2
  go_ret
  exact ⟨rfl, rfl⟩
theorem load_in (p q : Nat) (zs : List Int) (c : Int) (i : Nat) (w : World) (h : Ar w p q zs c) (hi : i < zs.length) (h0 : 0 ≤ c) (h1 : c < 9223372036854775807) :
    Calls Tryz.prog 39 #[.pointer (some ⟨p, 0, none⟩), .int .i64 i] w (Post (.int .u64 (zs.getD i 0)) p q zs (c + 1) w) := by
  have ha := h.count (c + 1)
  have hc := ha.ws.cell i hi
  obtain ⟨y, ey⟩ : ∃ y, zs.getD i 0 = y := ⟨_, rfl⟩
  rw [ey] at hc ⊢
  clear ey
  go_enter Tryz.func39, Tryz.ntmps39
  go_wp2_with fail; refine (access_in p q zs c i w h hi h0 h1).mono ?_; rintro e w1 ⟨rfl, rfl⟩
  go_wp2_with (go_at_call 56; refine (aload_any _ _ _ hc rfl).mono ?_; rintro e w' ⟨rfl, rfl⟩)
  go_ret
  exact ⟨rfl, ha, (Keep.refl _ _).setCell (Or.inl rfl) _⟩
theorem load_no (p q : Nat) (zs : List Int) (c : Int) (i : Int) (w : World) (h : Ar w p q zs c) (hi : i < 0 ∨ zs.length ≤ i) :
    Calls Tryz.prog 39 #[.pointer (some ⟨p, 0, none⟩), .int .i64 i] w fun e w' => e = .returned (.int .u64 0) ∧ w = w' := by
  go_enter Tryz.func39, Tryz.ntmps39
  go_wp2_with (go_at_call 52; refine (access_no p q zs c i _ h hi).mono ?_; rintro e w' ⟨rfl, rfl⟩)
  go_ret
  exact ⟨rfl, rfl⟩
theorem store_in (p q : Nat) (zs : List Int) (c : Int) (i : Nat) (x : Int) (w : World) (h : Ar w p q zs c) (hi : i < zs.length) (h0 : 0 ≤ c) (h1 : c < 9223372036854775807) (x0 : 0 ≤ x) (x1 : x ≤ 18446744073709551615) :
    Calls Tryz.prog 30 #[.pointer (some ⟨p, 0, none⟩), .int .i64 i, .int .u64 x] w (Post (.tuple #[]) p q (zs.set i x) (c + 1) w) := by
  have ha := h.count (c + 1)
  have hc := ha.ws.cell i hi
  have hz := ha.ws.free i
  go_enter Tryz.func30, Tryz.ntmps30
  go_wp2_with fail; refine (access_in p q zs c i w h hi h0 h1).mono ?_; rintro e w1 ⟨rfl, rfl⟩
  go_wp2_with (go_at_call 53; refine (astore_any _ _ _ _ hc hz rfl).mono ?_; rintro e w' ⟨rfl, rfl⟩)
  go_end0
  exact ⟨rfl, ha.set i hi x0 x1, ((Keep.refl _ _).setCell (Or.inl rfl) _).setCell (Or.inr rfl) _⟩
theorem store_no (p q : Nat) (zs : List Int) (c : Int) (i : Int) (x : Int) (w : World) (h : Ar w p q zs c) (hi : i < 0 ∨ zs.length ≤ i) :
    Calls Tryz.prog 30 #[.pointer (some ⟨p, 0, none⟩), .int .i64 i, .int .u64 x] w fun e w' => e = .returned (.tuple #[]) ∧ w = w' := by
  go_enter Tryz.func30, Tryz.ntmps30
  go_wp2_with (go_at_call 52; refine (access_no p q zs c i _ h hi).mono ?_; rintro e w' ⟨rfl, rfl⟩)
  go_end0
  exact ⟨rfl, rfl⟩
theorem cas_hit (p q : Nat) (zs : List Int) (c : Int) (i : Nat) (o x : Int) (w : World) (h : Ar w p q zs c) (hi : i < zs.length) (h0 : 0 ≤ c) (h1 : c < 9223372036854775807) (x0 : 0 ≤ x) (x1 : x ≤ 18446744073709551615) (ho : zs.getD i 0 = o) :
    Calls Tryz.prog 34 #[.pointer (some ⟨p, 0, none⟩), .int .i64 i, .int .u64 o, .int .u64 x] w (Post (.bool true) p q (zs.set i x) (c + 1) w) := by
  have ha := h.count (c + 1)
  have hc := ha.ws.cell i hi
  rw [ho] at hc
  clear ho
  have hz := ha.ws.free i
  go_enter Tryz.func34, Tryz.ntmps34
  go_wp2_with fail; refine (access_in p q zs c i w h hi h0 h1).mono ?_; rintro e w1 ⟨rfl, rfl⟩
  go_wp2_with (go_at_call 55; refine (acas_hit _ _ _ _ hc hz rfl).mono ?_; rintro e w' ⟨rfl, rfl⟩)
  go_ret
  exact ⟨rfl, ha.set i hi x0 x1, ((Keep.refl _ _).setCell (Or.inl rfl) _).setCell (Or.inr rfl) _⟩
theorem cas_miss (p q : Nat) (zs : List Int) (c : Int) (i : Nat) (o x : Int) (w : World) (h : Ar w p q zs c) (hi : i < zs.length) (h0 : 0 ≤ c) (h1 : c < 9223372036854775807) (ho : ¬ zs.getD i 0 = o) :
    Calls Tryz.prog 34 #[.pointer (some ⟨p, 0, none⟩), .int .i64 i, .int .u64 o, .int .u64 x] w (Post (.bool false) p q zs (c + 1) w) := by
  have ha := h.count (c + 1)
  have hc := ha.ws.cell i hi
  have hz := ha.ws.free i
  go_enter Tryz.func34, Tryz.ntmps34
  go_wp2_with fail; refine (access_in p q zs c i w h hi h0 h1).mono ?_; rintro e w1 ⟨rfl, rfl⟩
  go_wp2_with (go_at_call 55; refine (acas_miss _ _ _ _ _ hc hz rfl ho).mono ?_; rintro e w' ⟨rfl, rfl⟩)
  go_ret
  exact ⟨rfl, ha, (Keep.refl _ _).setCell (Or.inl rfl) _⟩
theorem cas_no (p q : Nat) (zs : List Int) (c : Int) (i : Int) (o x : Int) (w : World) (h : Ar w p q zs c) (hi : i < 0 ∨ zs.length ≤ i) :
    Calls Tryz.prog 34 #[.pointer (some ⟨p, 0, none⟩), .int .i64 i, .int .u64 o, .int .u64 x] w fun e w' => e = .returned (.bool false) ∧ w = w' := by
  go_enter Tryz.func34, Tryz.ntmps34
  go_wp2_with (go_at_call 52; refine (access_no p q zs c i _ h hi).mono ?_; rintro e w' ⟨rfl, rfl⟩)
  go_ret
  exact ⟨rfl, rfl⟩
/- The same, with what comes out under names of one's own. -/
theorem load_to {p q : Nat} {zs : List Int} {c : Int} (i : Nat) {w : World} (y c2 : Int) (h : Ar w p q zs c) (hi : i < zs.length) (h0 : 0 ≤ c) (h1 : c < 9223372036854775807) (hy : zs.getD i 0 = y) (hc : c + 1 = c2) :
    Calls Tryz.prog 39 #[.pointer (some ⟨p, 0, none⟩), .int .i64 i] w (Post (.int .u64 y) p q zs c2 w) := by
  subst hy; subst hc; exact load_in p q zs c i w h hi h0 h1
theorem store_to {p q : Nat} {zs : List Int} {c : Int} (i : Nat) {w : World} (x : Int) (zs2 : List Int) (c2 : Int) (h : Ar w p q zs c) (hi : i < zs.length) (h0 : 0 ≤ c) (h1 : c < 9223372036854775807) (x0 : 0 ≤ x) (x1 : x ≤ 18446744073709551615) (hz : zs.set i x = zs2) (hc : c + 1 = c2) :
    Calls Tryz.prog 30 #[.pointer (some ⟨p, 0, none⟩), .int .i64 i, .int .u64 x] w (Post (.tuple #[]) p q zs2 c2 w) := by
  subst hz; subst hc; exact store_in p q zs c i x w h hi h0 h1 x0 x1
theorem cas_to {p q : Nat} {zs : List Int} {c : Int} (i : Nat) {w : World} (o x : Int) (zs2 : List Int) (c2 : Int) (h : Ar w p q zs c) (hi : i < zs.length) (h0 : 0 ≤ c) (h1 : c < 9223372036854775807) (x0 : 0 ≤ x) (x1 : x ≤ 18446744073709551615) (ho : zs.getD i 0 = o) (hz : zs.set i x = zs2) (hc : c + 1 = c2) :
    Calls Tryz.prog 34 #[.pointer (some ⟨p, 0, none⟩), .int .i64 i, .int .u64 o, .int .u64 x] w (Post (.bool true) p q zs2 c2 w) := by
  subst hz; subst hc; exact cas_hit p q zs c i o x w h hi h0 h1 x0 x1 ho
theorem cas_not {p q : Nat} {zs : List Int} {c : Int} (i : Nat) {w : World} (o x : Int) (c2 : Int) (h : Ar w p q zs c) (hi : i < zs.length) (h0 : 0 ≤ c) (h1 : c < 9223372036854775807) (ho : ¬ zs.getD i 0 = o) (hc : c + 1 = c2) :
    Calls Tryz.prog 34 #[.pointer (some ⟨p, 0, none⟩), .int .i64 i, .int .u64 o, .int .u64 x] w (Post (.bool false) p q zs c2 w) := by
  subst hc; exact cas_miss p q zs c i o x w h hi h0 h1 ho
end Go.Proofs.YtmfpjnlplimkeaaGreat
/- A slice that the call itself has made, of elements of several cells each: what it holds, element by element; kept where other blocks turn; behind a store. No dump; no condition. -/
namespace Go.Proofs.YtmfpjnlplimkeaaGreat
open Go.ChangeShapes Go.WideShapes Go.ChangeAt Go.RowKit
set_option linter.unusedVariables false

/-- The slice value v is the call's own (or nil) and holds the elements zs, each of m cells, by f. -/
def OwnM {α : Type} (m : Nat) (f : α → List Value) (e : TypeId) (w : World) (v : Value) (zs : List α) : Prop := w.ownsRow 0 e m v zs.length (zs.flatMap f)
section
variable {α : Type} {m : Nat} {f : α → List Value} {e : TypeId} {w w' : World} {v : Value} {zs : List α}
theorem flat_len (hf : ∀ x, (f x).length = m) (zs : List α) : (zs.flatMap f).length = zs.length * m := by
  induction zs with
  | nil => simp
  | cons z zs ih => simp only [List.flatMap_cons, List.length_append, hf, ih, List.length_cons, Nat.succ_mul]; omega
theorem flat_get (hf : ∀ x, (f x).length = m) (zs : List α) (i j : Nat) (hi : i < zs.length) (hj : j < m) : (zs.flatMap f)[i * m + j]? = (f zs[i])[j]? := by
  induction zs generalizing i with
  | nil => simp at hi
  | cons z zs ih =>
    rw [List.flatMap_cons]
    cases i with
    | zero => rw [Nat.zero_mul, Nat.zero_add, List.getElem?_append_left (by rw [hf]; exact hj)]; rfl
    | succ i =>
      have e : (i + 1) * m + j = (f z).length + (i * m + j) := by rw [hf, Nat.succ_mul]; omega
      rw [e, List.getElem?_append_right (by omega), Nat.add_sub_cancel_left, ih i (by simpa using hi)]
      rfl
theorem flat_set (hf : ∀ x, (f x).length = m) (zs : List α) (i j : Nat) (hi : i < zs.length) (hj : j < m) (u : Value) (x : α) (hx : f x = (f zs[i]).set j u) : (zs.flatMap f).set (i * m + j) u = (zs.set i x).flatMap f := by
  induction zs generalizing i with
  | nil => simp at hi
  | cons z zs ih =>
    cases i with
    | zero =>
      rw [Nat.zero_mul, Nat.zero_add, List.set_cons_zero, List.flatMap_cons, List.flatMap_cons, hx, List.set_append_left _ _ (by rw [hf]; exact hj)]
      rfl
    | succ i =>
      have e : (i + 1) * m + j = (f z).length + (i * m + j) := by rw [hf, Nat.succ_mul]; omega
      rw [e, List.flatMap_cons, List.set_append_right _ _ (by omega), Nat.add_sub_cancel_left, List.set_cons_succ, List.flatMap_cons, ih i (by simpa using hi) hx]
theorem OwnM.form (h : OwnM m f e w v zs) : (v = .slice none 0 0 ∧ zs = []) ∨ ∃ g c, v = .slice (some ⟨g, 0, none⟩) zs.length c ∧ g < w.heap.size ∧ zs.length ≤ c ∧ c ≤ maxLen := by
  obtain ⟨h1, h2⟩ := id h
  rcases h2 with ⟨h3, h4⟩ | ⟨g, c, cur, hv, _, hh, hc, hm, _⟩
  · exact .inl ⟨h3, List.length_eq_zero_iff.1 h4⟩
  · exact .inr ⟨g, c, hv, lt_of_block hh, hc, hm⟩
theorem OwnM.lt (h : OwnM m f e w v zs) {g : Nat} (hg : v.ownBlock = some g) : g < w.heap.size := (World.ownsRow.lt h g hg).2
theorem OwnM.keep {S : Nat → Prop} (h : OwnM m f e w v zs) (k : Keep S w w') (hn : ∀ g, v.ownBlock = some g → ¬ S g) : OwnM m f e w' v zs := by
  obtain ⟨h1, h2⟩ := id h
  refine ⟨h1, ?_⟩
  rcases h2 with h2 | ⟨g, c, cur, hv, hg, hh, r⟩
  · exact .inl h2
  · subst hv
    exact .inr ⟨g, c, cur, rfl, hg, by rw [k.block g (lt_of_block hh) (hn g rfl)]; exact hh, r⟩
theorem OwnM.n {g n c : Nat} (h : OwnM m f e w (.slice (some ⟨g, 0, none⟩) n c) zs) : n = zs.length := by
  obtain ⟨h1, h2⟩ := id h
  rcases h2 with ⟨h2, _⟩ | ⟨g', c', cur, hv, _⟩
  · simp at h2
  · simp at hv; exact hv.2.1
theorem OwnM.cell {g n c : Nat} (hf : ∀ x, (f x).length = m) (h : OwnM m f e w (.slice (some ⟨g, 0, none⟩) n c) zs) (i j : Nat) (hi : i < zs.length) (hj : j < m) : w.cell? ⟨g, i * m + j, none⟩ = (f zs[i])[j]? := by
  obtain rfl := h.n
  rw [World.ownsRow.cellAt h (i * m + j) (by have := Nat.mul_le_mul_right m (show i + 1 ≤ zs.length from hi); rw [Nat.succ_mul] at this; omega)]
  exact flat_get hf zs i j hi hj
theorem OwnM.free {g n c : Nat} (h : OwnM m f e w (.slice (some ⟨g, 0, none⟩) n c) zs) (i : Nat) : w.frozen? ⟨g, i, none⟩ = false := by
  obtain rfl := h.n
  exact World.ownsRow.frozenAt h i
theorem OwnM.set {g n c : Nat} (hf : ∀ x, (f x).length = m) (h : OwnM m f e w (.slice (some ⟨g, 0, none⟩) n c) zs) (i j : Nat) (hi : i < zs.length) (hj : j < m) (u : Value) (x : α) (hx : f x = (f zs[i]).set j u) :
    OwnM m f e (w.setCell ⟨g, i * m + j, none⟩ u) (.slice (some ⟨g, 0, none⟩) n c) (zs.set i x) := by
  obtain rfl := h.n
  have := (World.ownsRow.stored h (i * m + j) u).1
  rw [flat_set hf zs i j hi hj u x hx] at this
  unfold OwnM
  rw [List.length_set]
  exact this
theorem OwnM.nil : OwnM m f e w (.slice none 0 0) ([] : List α) := World.ownsRow_nil _ _ _ _
theorem OwnM.of_base {base : Nat} {n : Nat} {xs : List Value} (h : w.ownsRow base e m v n xs) (hn : n = zs.length) (hx : xs = zs.flatMap f) : OwnM m f e w v zs := by
  subst hn; subst hx
  obtain ⟨h1, h2⟩ := h
  refine ⟨h1, ?_⟩
  rcases h2 with h2 | ⟨g, c, cur, hv, _, r⟩
  · exact .inl h2
  · exact .inr ⟨g, c, cur, hv, Nat.zero_le _, r⟩
end
end Go.Proofs.YtmfpjnlplimkeaaGreat
/- Blocks of 64 bools, of 64 ints: what their cells hold, kept where other blocks turn, behind a store, when they are new. No dump; no condition. -/
namespace Go.Proofs.YtmfpjnlplimkeaaGreat
open Go.ChangeShapes Go.WideShapes Go.ChangeAt Go.RowKit
set_option linter.unusedVariables false

/-- Block B holds 64 bools. -/
structure Bits64 (w : World) (B : Nat) (f : Nat → Bool) : Prop where
  cell : ∀ j, j < 64 → w.cell? ⟨B, j, none⟩ = some (.bool (f j))
  free : ∀ j, w.frozen? ⟨B, j, none⟩ = false
  lt : B < w.heap.size
theorem Bits64.keep {S : Nat → Prop} {w w' : World} {B : Nat} {f : Nat → Bool} (h : Bits64 w B f) (k : Keep S w w') (hn : ¬ S B) : Bits64 w' B f :=
  ⟨fun j hj => k.cell (h.cell j hj) hn, fun j => (k.frozen (a := ⟨B, j, none⟩) h.lt hn).trans (h.free j), Nat.lt_of_lt_of_le h.lt k.size⟩
theorem Bits64.set {w : World} {B : Nat} {f : Nat → Bool} (h : Bits64 w B f) (i : Nat) (hi : i < 64) (x : Bool) : Bits64 (w.setCell ⟨B, i, none⟩ (.bool x)) B (fun j => if j = i then x else f j) := by
  refine ⟨fun j hj => ?_, fun j => by simpa using h.free j, by simpa [World.setCell] using h.lt⟩
  by_cases e : i = j
  · subst e
    rw [World.cell?_setCell_same _ _ _ (h.cell i hi), if_pos rfl]
  · rw [World.cell?_setCell_other _ _ _ _ (by simp <;> omega), h.cell j hj, if_neg (Ne.symm e)]
theorem bits_new (w : World) (T : TypeId) : Bits64 (w.alloc (.cells (Array.replicate 64 (.bool false)) T)) w.heap.size (fun _ => false) := by
  refine ⟨fun j hj => ?_, fun j => by simp, by simp⟩
  have : (Array.replicate 64 (Value.bool false))[j]? = some (.bool false) := by rw [Array.getElem?_replicate, if_pos hj]
  simpa using this
/-- Block B holds 64 ints. -/
structure Ints64 (w : World) (B : Nat) (f : Nat → Int) : Prop where
  cell : ∀ j, j < 64 → w.cell? ⟨B, j, none⟩ = some (.int .i64 (f j))
  free : ∀ j, w.frozen? ⟨B, j, none⟩ = false
  lt : B < w.heap.size
theorem Ints64.keep {S : Nat → Prop} {w w' : World} {B : Nat} {f : Nat → Int} (h : Ints64 w B f) (k : Keep S w w') (hn : ¬ S B) : Ints64 w' B f :=
  ⟨fun j hj => k.cell (h.cell j hj) hn, fun j => (k.frozen (a := ⟨B, j, none⟩) h.lt hn).trans (h.free j), Nat.lt_of_lt_of_le h.lt k.size⟩
theorem Ints64.set {w : World} {B : Nat} {f : Nat → Int} (h : Ints64 w B f) (i : Nat) (hi : i < 64) (x : Int) : Ints64 (w.setCell ⟨B, i, none⟩ (.int .i64 x)) B (fun j => if j = i then x else f j) := by
  refine ⟨fun j hj => ?_, fun j => by simpa using h.free j, by simpa [World.setCell] using h.lt⟩
  by_cases e : i = j
  · subst e
    rw [World.cell?_setCell_same _ _ _ (h.cell i hi), if_pos rfl]
  · rw [World.cell?_setCell_other _ _ _ _ (by simp <;> omega), h.cell j hj, if_neg (Ne.symm e)]
theorem ints_new (w : World) (T : TypeId) : Ints64 (w.alloc (.cells (Array.replicate 64 (.int .i64 0)) T)) w.heap.size (fun _ => 0) := by
  refine ⟨fun j hj => ?_, fun j => by simp, by simp⟩
  have : (Array.replicate 64 (Value.int .i64 0))[j]? = some (.int .i64 0) := by rw [Array.getElem?_replicate, if_pos hj]
  simpa using this
end Go.Proofs.YtmfpjnlplimkeaaGreat
