/- Package bond in memory: a party's cells, the list of parties, the map from ids to parties; kept where other blocks turn; behind the turn of one party, and behind a new one; the look-up. No condition beyond the layout. -/
import Derived.Test.YtjobphjpfknfeaaDoorBsM
import Derived.Test.YtjobphjpfknfeaaDoorPush1
import Derived.Maps.Keyed
namespace Go.Proofs.YtjobphjpfknfeaaDoor
open Go.ChangeShapes Go.WideShapes Go.ChangeAt Go.RowKit
set_option linter.unusedVariables false
open Classical

structure Pty where
  id : Int
  st : Int
  bo : Nat → Prop
  be : Nat → Prop
  ab : Nat → Prop
def noP : Pty := ⟨0, 0, fun _ => False, fun _ => False, fun _ => False⟩
/-- The party with place i. -/
def pty (xs : List Pty) (i : Nat) : Pty := xs.getD i noP
def dnP (x : Pty) : Int := if x.st ≤ 2 then 0 else 1
structure PtyAt (w : World) (b i : Nat) (x : Pty) : Prop where
  c0 : w.cell? ⟨b, 0, none⟩ = some (.int .i64 x.id)
  c1 : w.cell? ⟨b, 1, none⟩ = some (.int .i64 i)
  c2 : w.cell? ⟨b, 2, none⟩ = some (.int .i64 x.st)
  c3 : w.cell? ⟨b, 3, none⟩ = some (.int .u32 (dnP x))
  c4 : w.cell? ⟨b, 4, none⟩ = some (.int .i32 0)
  s1 : SetAt w b 6 x.bo
  s2 : SetAt w b 38 x.be
  s3 : SetAt w b 70 x.ab
def keyE (id : Int) (b i : Nat) : MapEntry := ⟨.int .i64 id, ptrV b, i⟩
/-- The map's entries: in the order in which the ids were opened. -/
def ents (bs : List Nat) (xs : List Pty) : Array MapEntry := ((List.range xs.length).map fun i => keyE (pty xs i).id (bs.getD i 0) i).toArray
def I64 (x : Int) : Prop := -9223372036854775808 ≤ x ∧ x ≤ 9223372036854775807
structure BdC (w : World) (p m : Nat) (v : Value) (bs : List Nat) (xs : List Pty) : Prop where
  cl : w.cell? ⟨p, 0, none⟩ = some v
  cm : w.cell? ⟨p, 1, none⟩ = some (.map (some m))
  fz : ∀ i, w.frozen? ⟨p, i, none⟩ = false
  ow : OwnAt 0 ptrV 56 w v bs
  bl : bs.length = xs.length
  mp : w.heap[m]? = some (.map (ents bs xs) xs.length)
  en : ∀ i, i < xs.length → PtyAt w (bs.getD i 0) i (pty xs i)
  dj : ∀ i j, i < j → j < xs.length → bs.getD i 0 ≠ bs.getD j 0
  np : ∀ i, i < xs.length → bs.getD i 0 ≠ p
  nm : ∀ i, i < xs.length → bs.getD i 0 ≠ m
  nv : ∀ i, i < xs.length → v.ownBlock ≠ some (bs.getD i 0)
  vp : v.ownBlock ≠ some p
  vm : v.ownBlock ≠ some m
  pm : p ≠ m
  short : xs.length ≤ 2000
  nd : ∀ i j, i < j → j < xs.length → (pty xs i).id ≠ (pty xs j).id
  wf : ∀ i, i < xs.length → 1 ≤ (pty xs i).id ∧ (pty xs i).id ≤ 9223372036854775807
/-- The blocks of the parties. -/
def PFt (bs : List Nat) (n g : Nat) : Prop := ∃ i, i < n ∧ bs.getD i 0 = g
/-- All its blocks. -/
def BFt (p m : Nat) (v : Value) (bs : List Nat) (n g : Nat) : Prop := g = p ∨ g = m ∨ v.ownBlock = some g ∨ PFt bs n g
section
variable {w w' w2 : World} {p m b i : Nat} {v : Value} {bs : List Nat} {xs : List Pty} {x y : Pty} {T : Nat → Prop} {id : Int}
theorem pty_set (i j : Nat) (hi : i < xs.length) : pty (xs.set i x) j = if j = i then x else pty xs j := by
  unfold pty
  simp only [List.getD_eq_getElem?_getD, List.getElem?_set]
  by_cases e : i = j
  · subst e; simp [hi]
  · have : ¬ j = i := fun q => e q.symm
    simp [e, this]
theorem pty_push (j : Nat) : pty (xs ++ [x]) j = if j < xs.length then pty xs j else if j = xs.length then x else noP := by
  unfold pty
  simp only [List.getD_eq_getElem?_getD, List.getElem?_append]
  by_cases e : j < xs.length
  · simp [e]
  · by_cases e2 : j = xs.length
    · subst e2; simp
    · rw [if_neg e, if_neg e, if_neg e2, List.getElem?_eq_none (by simp; omega)]; rfl
theorem bs_push (h : bs.length = xs.length) (j : Nat) : (bs ++ [b]).getD j 0 = if j < xs.length then bs.getD j 0 else if j = xs.length then b else 0 := by
  simp only [List.getD_eq_getElem?_getD, List.getElem?_append, h]
  by_cases e : j < xs.length
  · simp [e]
  · by_cases e2 : j = xs.length
    · subst e2; simp
    · rw [if_neg e, if_neg e, if_neg e2, List.getElem?_eq_none (by simp; omega)]; rfl
theorem PtyAt.lt (h : PtyAt w b i x) : b < w.heap.size := lt_of_cell (a := ⟨b, 0, none⟩) h.c0
theorem PtyAt.fz (h : PtyAt w b i x) (j : Nat) : w.frozen? ⟨b, j, none⟩ = false := h.s1.fz j
theorem PtyAt.keep (h : PtyAt w b i x) (k : Keep T w w') (n : ¬ T b) : PtyAt w' b i x :=
  ⟨k.cell h.c0 n, k.cell h.c1 n, k.cell h.c2 n, k.cell h.c3 n, k.cell h.c4 n, h.s1.keep k n, h.s2.keep k n, h.s3.keep k n⟩
/-- One of its sets has turned. -/
theorem PtyAt.turn {o : Nat} (h : PtyAt w b i x) (k : Sub b o w w') (ho : o = 6 ∨ o = 38 ∨ o = 70) {P : Nat → Prop} (hs : SetAt w' b o P) : PtyAt w' b i (if o = 6 then { x with bo := P } else if o = 38 then { x with be := P } else { x with ab := P }) := by
  have c0 := (k.cell 0 (by omega)).trans h.c0
  have c1 := (k.cell 1 (by omega)).trans h.c1
  have c2 := (k.cell 2 (by omega)).trans h.c2
  have c3 := (k.cell 3 (by omega)).trans h.c3
  have c4 := (k.cell 4 (by omega)).trans h.c4
  rcases ho with rfl | rfl | rfl
  · exact ⟨c0, c1, c2, c3, c4, hs, h.s2.apart k (by omega), h.s3.apart k (by omega)⟩
  · exact ⟨c0, c1, c2, c3, c4, h.s1.apart k (by omega), hs, h.s3.apart k (by omega)⟩
  · exact ⟨c0, c1, c2, c3, c4, h.s1.apart k (by omega), h.s2.apart k (by omega), hs⟩
theorem ents_set (i : Nat) (hi : i < xs.length) (hid : x.id = (pty xs i).id) : ents bs (xs.set i x) = ents bs xs := by
  unfold ents
  rw [List.length_set]
  congr 1
  refine List.map_congr_left fun j hj => ?_
  rw [pty_set i j hi]
  by_cases e : j = i
  · subst e; rw [if_pos rfl, hid]
  · rw [if_neg e]
theorem ents_push (h : bs.length = xs.length) : ents (bs ++ [b]) (xs ++ [x]) = (ents bs xs).push (keyE x.id b xs.length) := by
  unfold ents
  rw [List.length_append, List.length_singleton, List.range_succ, List.map_append, List.push_toArray]
  congr 2
  · refine List.map_congr_left fun j hj => ?_
    have := List.mem_range.1 hj
    rw [pty_push, bs_push h, if_pos this, if_pos this]
  · rw [List.map_singleton, pty_push, bs_push h, if_neg (by omega), if_pos rfl, if_neg (by omega), if_pos rfl]
theorem BdC.lt (h : BdC w p m v bs xs) (g : Nat) (hg : BFt p m v bs xs.length g) : g < w.heap.size := by
  rcases hg with rfl | rfl | hg | ⟨i, hi, rfl⟩
  · exact lt_of_cell (a := ⟨g, 0, none⟩) h.cl
  · exact (Array.getElem?_eq_some_iff.1 h.mp).1
  · exact Own.lt (f := ptrV) (zs := bs) (by exact h.ow) hg
  · exact (h.en i hi).lt
theorem BdC.keep (h : BdC w p m v bs xs) (k : Keep T w w') (hn : ∀ g, BFt p m v bs xs.length g → ¬ T g) : BdC w' p m v bs xs :=
  have np : ¬ T p := hn p (.inl rfl)
  ⟨k.cell h.cl np, k.cell h.cm np, fun i => (k.frozen (a := ⟨p, i, none⟩) (h.lt p (.inl rfl)) np).trans (h.fz i), Own.keep (by exact h.ow) k (fun g hg => hn g (.inr (.inr (.inl hg)))), h.bl,
    (k.block m (h.lt m (.inr (.inl rfl))) (hn m (.inr (.inl rfl)))).trans h.mp, fun i hi => (h.en i hi).keep k (hn _ (.inr (.inr (.inr ⟨i, hi, rfl⟩)))), h.dj, h.np, h.nm, h.nv, h.vp, h.vm, h.pm, h.short, h.nd, h.wf⟩
theorem BdC.apart (h : BdC w p m v bs xs) {i j : Nat} (hi : i < xs.length) (hj : j < xs.length) (e : bs.getD i 0 = bs.getD j 0) : i = j := by
  rcases Nat.lt_trichotomy i j with q | q | q
  · exact absurd e (h.dj i j q hj)
  · exact q
  · exact absurd e.symm (h.dj j i q hi)
/-- One party's block has turned. -/
theorem BdC.put (h : BdC w p m v bs xs) (i : Nat) (hi : i < xs.length) (k : Keep (fun j => j = bs.getD i 0) w w') (hx : PtyAt w' (bs.getD i 0) i x) (hid : x.id = (pty xs i).id) : BdC w' p m v bs (xs.set i x) := by
  have hl : (xs.set i x).length = xs.length := List.length_set
  have np : ¬ p = bs.getD i 0 := fun e => h.np i hi e.symm
  have nm : ¬ m = bs.getD i 0 := fun e => h.nm i hi e.symm
  have ids : ∀ j, (pty (xs.set i x) j).id = (pty xs j).id := fun j => by
    rw [pty_set i j hi]
    by_cases e : j = i
    · subst e; rw [if_pos rfl, hid]
    · rw [if_neg e]
  refine ⟨k.cell h.cl np, k.cell h.cm np, fun j => (k.frozen (a := ⟨p, j, none⟩) (h.lt p (.inl rfl)) np).trans (h.fz j), Own.keep (by exact h.ow) k (fun g hg e => h.nv i hi (by rw [hg, e])), by rw [hl]; exact h.bl, ?_, fun j hj => ?_, fun a b ab hb => h.dj a b ab (by rwa [hl] at hb), fun j hj => h.np j (by rwa [hl] at hj), fun j hj => h.nm j (by rwa [hl] at hj), fun j hj => h.nv j (by rwa [hl] at hj), h.vp, h.vm, h.pm, by rw [hl]; exact h.short, fun a b ab hb => by rw [ids, ids]; exact h.nd a b ab (by rwa [hl] at hb), fun j hj => by rw [ids]; exact h.wf j (by rwa [hl] at hj)⟩
  · rw [hl, ents_set i hi hid]
    exact (k.block m (h.lt m (.inr (.inl rfl))) nm).trans h.mp
  · rw [hl] at hj
    rw [pty_set i j hi]
    by_cases e : j = i
    · subst e; rw [if_pos rfl]; exact hx
    · rw [if_neg e]
      exact (h.en j hj).keep k (fun q => e (h.apart hj hi q))
theorem BdC.form (h : BdC w p m v bs xs) : ∃ A c, v = .slice A xs.length c ∧ (A = none → xs.length = 0) ∧ ∀ ad, A = some ad → ∃ g, ad = ⟨g, 0, none⟩ := by
  have ow : Own ptrV 56 w v bs := h.ow
  rcases ow.form with ⟨rfl, z⟩ | ⟨g, c, rfl, _⟩
  · have : xs.length = 0 := by rw [← h.bl, z]; rfl
    exact ⟨none, 0, by rw [this], fun _ => this, fun ad h => by cases h⟩
  · exact ⟨some ⟨g, 0, none⟩, c, by rw [h.bl], fun h => (by cases h), fun ad h => (by cases h; exact ⟨g, rfl⟩)⟩
theorem BdC.slot (h : BdC w p m v bs xs) (i : Nat) (hi : i < xs.length) : ∃ g c, v = .slice (some ⟨g, 0, none⟩) xs.length c ∧ w.cell? ⟨g, i, none⟩ = some (ptrV (bs.getD i 0)) := by
  have ow : Own ptrV 56 w v bs := h.ow
  rcases ow.form with ⟨rfl, z⟩ | ⟨g, c, rfl, _⟩
  · rw [← h.bl, z] at hi; simp at hi
  · have hi2 : i < bs.length := by rw [h.bl]; exact hi
    have := ow.cell i hi2
    exact ⟨g, c, by rw [h.bl], by rw [this]; simp [List.getD_eq_getElem?_getD, hi2]⟩
theorem bd_keyed : Maps.Keyed Tryd.prog 3 := Maps.int_keyed Tryd.underlying3
theorem key_wf (hid : I64 id) : keyOf Tryd.prog 3 (.int .i64 id) = some (.int .i64 id) := Maps.keyOf_int_mk Tryd.underlying3 (by
  unfold I64 at hid
  simp only [Lit.wf, Bool.and_eq_true, decide_eq_true_eq]
  exact ⟨by show (-9223372036854775808 : Int) ≤ id; exact hid.1, by show id ≤ (9223372036854775807 : Int); exact hid.2⟩)
/-- Who the id is: found, or not. -/
theorem BdC.look (h : BdC w p m v bs xs) (hid : I64 id) :
    (∃ i, i < xs.length ∧ (pty xs i).id = id ∧ (Instr.lookup 52 (.map (some m)) (.int .i64 id) false).run Tryd.prog w = .ok (ptrV (bs.getD i 0)) w) ∨
    ((∀ i, i < xs.length → (pty xs i).id ≠ id) ∧ (Instr.lookup 52 (.map (some m)) (.int .i64 id) false).run Tryd.prog w = .ok (.pointer none) w) := by
  have hkey := key_wf hid
  have hes : ∀ e ∈ (ents bs xs).toList, ∃ l, keyOf Tryd.prog 3 e.key = some l := fun e he => by
    simp only [ents, List.mem_map, List.mem_range] at he
    obtain ⟨i, hi, rfl⟩ := he
    exact ⟨_, key_wf ⟨by have := (h.wf i hi).1; omega, (h.wf i hi).2⟩⟩
  have hz : (zeroValue 56).run Tryd.prog w = .ok (.pointer none) w := by kernel_rfl
  rcases bd_keyed.find w hkey (ents bs xs).toList hes with ⟨h1, h2⟩ | ⟨j, e0, h1, h2, h3⟩
  · refine .inr ⟨fun i hi e => ?_, ?_⟩
    · refine h2 (keyE (pty xs i).id (bs.getD i 0) i) ?_ (by rw [← e]; rfl)
      simp only [ents, List.mem_map, List.mem_range]
      exact ⟨i, hi, rfl⟩
    · simp [Instr.lookup, run_underlying Tryd.underlying52, MapKept.run_getObj_map h.mp, bd_keyed.check w _ hkey, h1, hz, Result.andThen]
  · have hj : j < xs.length := by
      have := (List.getElem?_eq_some_iff.1 h2).1
      simpa [ents] using this
    have e1 : e0 = keyE (pty xs j).id (bs.getD j 0) j := by
      have : (ents bs xs).toList[j]? = some (keyE (pty xs j).id (bs.getD j 0) j) := by simp [ents, hj]
      rw [this] at h2
      exact (Option.some.inj h2).symm
    subst e1
    refine .inl ⟨j, hj, ?_, ?_⟩
    · simp only [keyE, Value.int.injEq, true_and] at h3
      exact h3
    · simp [Instr.lookup, run_underlying Tryd.underlying52, MapKept.run_getObj_map h.mp, bd_keyed.check w _ hkey, h1, Result.andThen, keyE]
/-- An id that is not there is laid into the map. -/
theorem BdC.laid (h : BdC w p m v bs xs) (hid : I64 id) (hn : ∀ i, i < xs.length → (pty xs i).id ≠ id) (hm : w'.heap[m]? = w.heap[m]?) :
    ∃ w2, (Instr.mapUpdate 52 (.map (some m)) (.int .i64 id) (ptrV b)).run Tryd.prog w' = .ok () w2 ∧ Keep (fun j => j = m) w' w2 ∧ w2.heap[m]? = some (.map ((ents bs xs).push (keyE id b xs.length)) (xs.length + 1)) := by
  have hkey := key_wf hid
  have mp := hm.trans h.mp
  have hes : ∀ e ∈ (ents bs xs).toList, ∃ l, keyOf Tryd.prog 3 e.key = some l := fun e he => by
    simp only [ents, List.mem_map, List.mem_range] at he
    obtain ⟨i, hi, rfl⟩ := he
    exact ⟨_, key_wf ⟨by have := (h.wf i hi).1; omega, (h.wf i hi).2⟩⟩
  rcases bd_keyed.find w' hkey (ents bs xs).toList hes with ⟨h1, h2⟩ | ⟨j, e0, h1, h2, h3⟩
  · refine ⟨ChangeMaps.setBlock w' m (.map ((ents bs xs).push (keyE id b xs.length)) (xs.length + 1)), by
      simp [Instr.mapUpdate, run_underlying Tryd.underlying52, MapKept.run_getObj_map mp, bd_keyed.check w' false hkey, h1, MapKept.run_setObj_map _ mp, Result.andThen, ChangeMaps.setBlock, keyE], ⟨rfl, rfl, rfl, by simp [ChangeMaps.setBlock], fun k hk hne => ?_⟩, ?_⟩
    · exact ChangeMaps.heap_setBlock_other mp _ hne
    · exact ChangeMaps.heap_setBlock_same mp _
  · exfalso
    have hj : j < xs.length := by
      have := (List.getElem?_eq_some_iff.1 h2).1
      simpa [ents] using this
    have e1 : e0 = keyE (pty xs j).id (bs.getD j 0) j := by
      have : (ents bs xs).toList[j]? = some (keyE (pty xs j).id (bs.getD j 0) j) := by simp [ents, hj]
      rw [this] at h2
      exact (Option.some.inj h2).symm
    subst e1
    simp only [keyE, Value.int.injEq, true_and] at h3
    exact hn j hj h3
end
end Go.Proofs.YtjobphjpfknfeaaDoor
