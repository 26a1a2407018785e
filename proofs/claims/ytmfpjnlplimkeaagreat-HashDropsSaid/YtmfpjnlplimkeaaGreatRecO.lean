/- One version of a Store that lives: what each call answers of it and leaves; plain facts, no dump. -/
import Derived.Test.YtmfpjnlplimkeaaGreatRecL
namespace Go.Proofs.YtmfpjnlplimkeaaGreat
open Go.ChangeShapes Go.WideShapes Go.ChangeAt Go.RowKit
set_option linter.unusedVariables false

/-- The link l is a version's that lives, and that is x. -/
structure One (s : RS) (l : Int) (x : Ver) : Prop where
  live : s.s.live l = true
  v : s.ver (slotOf l) = x
section
variable {s : RS} {l : Int} {x : Ver}
theorem One.tick (h : One s l x) : One s.tick l x := ⟨h.live, h.v⟩
theorem One.get (h : One s l x) : s.get l = .tuple #[verV x, .bool true] := by unfold RS.get; rw [if_pos h.live, h.v]
theorem One.put (h : One s l x) (ok : ROk s) (y : Ver) : One (s.put (slotOf l) y) l y :=
  ⟨h.live, by rw [RS.ver_put s _ _ _ (by rw [ok.l]; exact (slot_live h.live).1), if_pos rfl]⟩
theorem One.stop_yes (h : One s l x) (o n : Int) (e : x.e = o) : s.stop l o n = (true, s.put (slotOf l) { x with e := n }) := by
  unfold RS.stop; rw [h.v, if_pos ⟨h.live, e⟩]
theorem One.stop_no (h : One s l x) (o n : Int) (e : x.e ≠ o) : s.stop l o n = (false, s.tick) := by
  unfold RS.stop; rw [h.v, if_neg (fun z => e z.2)]
theorem One.begin_yes (h : One s l x) (o n : Int) (e : x.b = o) : s.begin l o n = (true, s.put (slotOf l) { x with b := n }) := by
  unfold RS.begin; rw [h.v, if_pos ⟨h.live, e⟩]
theorem One.begin_no (h : One s l x) (o n : Int) (e : x.b ≠ o) : s.begin l o n = (false, s.tick) := by
  unfold RS.begin; rw [h.v, if_neg (fun z => e z.2)]
end
/-- The first version of a new Store. -/
theorem make_first (n : Nat) (h0 : 1 ≤ n) (h1 : n ≤ 4096) (k v b e : Int) (k0 : 0 ≤ k) (k1 : k ≤ 63) (v0 : 0 ≤ v) (v1 : v ≤ 65535) : ∃ s, (RS.new n).make k v b e = (1, 0, s) ∧ One s 1 ⟨k, v, b, e, 0⟩ := by
  have ok := (rOk_new n h0 h1).p
  have ht : (RS.new n).s.top = some 0 := by
    simp only [RS.new, St.new, St.top, List.getLast?_nil, List.length_replicate]
    rw [if_pos (by omega)]; rfl
  obtain ⟨hi, _, _, e1, e2, _⟩ := ok_took ok ht
  have hg : (RS.new n).s.tag 0 = 0 := getD_rep n 0 0
  have hl : (RS.new n).s.link 0 = 1 := by unfold St.link; rw [hg]; decide
  refine ⟨⟨(RS.new n).s.took, (RS.new n).r.set 0 ⟨k, v, b, e, 0⟩, (RS.new n).c + 64⟩, ?_, ?_, ?_⟩
  · unfold RS.make
    rw [if_neg (by omega), ht]
    show ((RS.new n).s.link 0, _, _) = _
    rw [hl]
  · rw [live_iff]
    refine ⟨0, by rw [e1]; exact hi, ?_, ?_, by decide⟩
    · show ((RS.new n).s.took.taken).getD 0 false = true
      rw [e2, tk_set true (by rw [ok.tl]; exact hi), if_pos rfl]
    · rw [← hl]; simp only [St.link, St.tag, e1]
  · show ((RS.new n).r.set 0 _).getD (slotOf 1) _ = _
    rw [show slotOf 1 = 0 by decide, RS.ver_set (RS.new n) 0 0 _ (by simp [RS.new]; omega), if_pos rfl]
/-- A Store of n slots of which the first k were taken, and none given back. -/
structure Fill (s : RS) (n k : Nat) : Prop where
  gv : s.s.given = []
  fr : s.s.fresh = k
  tg : s.s.tags = List.replicate n 0
  tk : ∀ j, j < k → s.s.tk j = true
  ct : cnt s.s.taken = k
theorem fill_new (n : Nat) : Fill (RS.new n) n 0 := ⟨rfl, rfl, rfl, fun j hj => by omega, cnt_rep n⟩
section
variable {s : RS} {n k : Nat}
theorem Fill.len (h : Fill s n k) : s.s.tags.length = n := by rw [h.tg]; simp
theorem Fill.tag (h : Fill s n k) (j : Nat) : s.s.tag j = 0 := by unfold St.tag; rw [h.tg]; exact getD_rep n j 0
theorem Fill.link (h : Fill s n k) (j : Nat) : s.s.link j = (j : Int) + 1 := by unfold St.link linkI; rw [h.tag j]; omega
theorem Fill.tick (h : Fill s n k) : Fill s.tick n k := ⟨h.gv, h.fr, h.tg, h.tk, h.ct⟩
theorem Fill.put (h : Fill s n k) (i : Nat) (x : Ver) : Fill (s.put i x) n k := ⟨h.gv, h.fr, h.tg, h.tk, h.ct⟩
theorem Fill.live (h : Fill s n k) (ok : ROk s) (j : Nat) (hj : j < k) (hk : k ≤ n) : s.s.live ((j : Int) + 1) = true := by
  rw [← h.link j]
  exact live_link ok.p j (by rw [h.len]; omega) (h.tk j hj)
theorem Fill.make (h : Fill s n k) (ok : ROk s) (hk : k < n) (key v b e : Int) (k0 : 0 ≤ key) (k1 : key ≤ 63) (v0 : 0 ≤ v) (v1 : v ≤ 65535) :
    ∃ s', s.make key v b e = ((k : Int) + 1, 0, s') ∧ Fill s' n (k + 1) ∧ s'.ver k = ⟨key, v, b, e, 0⟩ ∧ ∀ j, j ≠ k → s'.ver j = s.ver j := by
  have hl := h.len
  have ht : s.s.top = some k := by
    simp only [St.top, h.gv, List.getLast?_nil, h.fr, hl]
    rw [if_pos (by omega)]; rfl
  obtain ⟨hi, hkf, _, e1, e2, _⟩ := ok_took ok.p ht
  have e3 : s.s.took = { s.s with taken := s.s.taken.set k true, fresh := (k : Int) + 1 } := by simp [St.took, h.gv, h.fr]
  have hkl : k < s.s.taken.length := by rw [ok.p.tl]; exact hi
  refine ⟨⟨s.s.took, s.r.set k ⟨key, v, b, e, 0⟩, s.c + 64⟩, ?_, ⟨?_, ?_, ?_, ?_, ?_⟩, ?_, ?_⟩
  · unfold RS.make
    rw [if_neg (by omega), ht]
    show (s.s.link k, _, _) = _
    rw [h.link k]
  · show s.s.took.given = []
    rw [e3]; exact h.gv
  · show s.s.took.fresh = _
    rw [e3]; simp
  · show s.s.took.tags = _
    rw [e1]; exact h.tg
  · intro j hj
    show s.s.took.taken.getD j false = true
    rw [e2, tk_set true hkl]
    split
    · rfl
    · exact h.tk j (by omega)
  · show cnt s.s.took.taken = _
    rw [e2, cnt_set _ _ hkl]
    have : s.s.taken.getD k false = false := hkf
    rw [this, h.ct]; simp
  · show (s.r.set k _).getD k _ = _
    rw [RS.ver_set s k k _ (by rw [ok.l]; exact hi), if_pos rfl]
  · intro j hj
    show (s.r.set k _).getD j _ = _
    rw [RS.ver_set s k j _ (by rw [ok.l]; exact hi), if_neg (fun e => hj e.symm)]
theorem Fill.full (h : Fill s n n) (key v b e : Int) (k0 : 0 ≤ key) (k1 : key ≤ 63) (v0 : 0 ≤ v) (v1 : v ≤ 65535) : s.make key v b e = (0, 15, s.tick) := by
  have ht : s.s.top = none := by
    simp only [St.top, h.gv, List.getLast?_nil, h.fr, h.len]
    rw [if_neg (by omega)]
  unfold RS.make
  rw [if_neg (by omega), ht]
/-- One of a full Store is freed, and another one made: it has the same slot and another link; the elder one is none. -/
theorem Fill.again (h : Fill s n n) (ok : ROk s) (j : Nat) (hj : j < n) (key v b e : Int) (k0 : 0 ≤ key) (k1 : key ≤ 63) (v0 : 0 ≤ v) (v1 : v ≤ 65535) :
    ∃ s1 s2, s.free ((j : Int) + 1) = (0, s1) ∧ s1.make key v b e = (131072 + ((j : Int) + 1), 0, s2) ∧ One s2 (131072 + ((j : Int) + 1)) ⟨key, v, b, e, 0⟩ ∧ s2.s.live ((j : Int) + 1) = false ∧ s2.used = n := by
  have hlen := h.len
  have n1 := ok.p.n1
  have hlv := h.live ok j hj (Nat.le_refl _)
  have sl : slotOf ((j : Int) + 1) = j := by rw [← h.link j]; exact slot_link s.s j (by omega)
  have hjt : j < s.s.taken.length := by rw [ok.p.tl, hlen]; exact hj
  have hjg : j < s.s.tags.length := by rw [hlen]; exact hj
  have g : s.s.gave j = { s.s with taken := s.s.taken.set j false, tags := s.s.tags.set j 1, given := [(j : Int)] } := by
    unfold St.gave
    rw [if_neg (by rw [h.tag j, ok.m]; omega), h.tag j, h.gv]; rfl
  have ok1 : Ok (s.s.gave j) := ok_gave ok.p hjg (h.tk j hj)
  have tp : (s.s.gave j).top = some j := by rw [g]; simp [St.top]
  have tt : (s.s.gave j).took = { s.s with taken := (s.s.taken.set j false).set j true, tags := s.s.tags.set j 1, given := [] } := by rw [g]; simp [St.took]
  have tag1 : (s.s.tags.set j 1).getD j 0 = 1 := by rw [tag_set _ hjg]; simp
  have lk : ∀ t : St, t.tags = s.s.tags.set j 1 → t.link j = 131072 + ((j : Int) + 1) := fun t ht => by
    unfold St.link St.tag linkI; rw [ht, tag1]; omega
  have fr : s.free ((j : Int) + 1) = (0, ⟨s.s.gave j, s.r, s.c + 64⟩) := by
    unfold RS.free; rw [if_pos hlv, sl]
  have lv : ∀ (l : Int) (m : Nat), l % 131072 = (m : Int) + 1 → slotOf l = m := fun l m hm => by unfold slotOf; omega
  refine ⟨⟨s.s.gave j, s.r, s.c + 64⟩, ⟨(s.s.gave j).took, s.r.set j ⟨key, v, b, e, 0⟩, s.c + 64 + 64⟩, fr, ?_, ⟨?_, ?_⟩, ?_, ?_⟩
  · unfold RS.make
    rw [if_neg (by omega)]
    show (match (s.s.gave j).top with | none => _ | some i => _) = _
    rw [tp]
    show ((s.s.gave j).link j, _, _) = _
    rw [lk _ (by rw [g])]
  · rw [live_iff]
    refine ⟨j, ?_, ?_, ?_, by omega⟩
    · show j < (s.s.gave j).took.tags.length
      rw [tt]; simpa using hjg
    · show (s.s.gave j).took.taken.getD j false = true
      rw [tt]
      simp [List.getD_eq_getElem?_getD, hjt]
    · show _ = (s.s.gave j).took.link j
      rw [lk _ (by rw [tt])]
  · show (s.r.set j _).getD (slotOf _) _ = _
    rw [lv _ j (by omega), RS.ver_set s j j _ (by rw [ok.l]; exact hjg), if_pos rfl]
  · cases hd : ((s.s.gave j).took).live ((j : Int) + 1) with
    | false => rfl
    | true =>
      obtain ⟨_, _, e2⟩ := slot_live hd
      rw [lv _ j (by omega), lk _ (by rw [tt])] at e2
      omega
  · show cnt (s.s.gave j).took.taken = _
    rw [tt]
    show cnt ((s.s.taken.set j false).set j true) = _
    have a1 : s.s.taken.getD j false = true := h.tk j hj
    rw [List.set_set, cnt_set _ _ hjt, a1, h.ct]; simp
end
theorem dead_begin {s : RS} {l : Int} (h : s.s.live l = false) (o n : Int) : s.begin l o n = (false, s.tick) := by unfold RS.begin; rw [if_neg (by simp [h])]
theorem dead_stop {s : RS} {l : Int} (h : s.s.live l = false) (o n : Int) : s.stop l o n = (false, s.tick) := by unfold RS.stop; rw [if_neg (by simp [h])]
theorem dead_set {s : RS} {l : Int} (h : s.s.live l = false) (v : Int) : s.set l v = (8, s.tick) := by unfold RS.set; rw [if_neg (by simp [h])]
theorem dead_next {s : RS} {l : Int} (h : s.s.live l = false) (t : Int) : s.next l t = (8, s.tick) := by unfold RS.next; rw [if_neg (by simp [h])]
theorem dead_free {s : RS} {l : Int} (h : s.s.live l = false) : s.free l = (8, s.tick) := by unfold RS.free; rw [if_neg (by simp [h])]
theorem dead_get {s : RS} {l : Int} (h : s.s.live l = false) : s.get l = .tuple #[verV ⟨0, 0, 0, 0, 0⟩, .bool false] := by unfold RS.get; rw [if_neg (by simp [h])]
/-- A Store, and a list of words of the call's own. -/
structure RecU (W w : World) (p : Nat) (S : Nat → Prop) (s : RS) (k : Nat) (v : Value) (zs : List Int) : Prop where
  r : Rec W w p S s k
  ow : OwnU W.heap.size w v zs
  dv : ∀ g, v.ownBlock = some g → ¬ S g
section
variable {W w w' : World} {p : Nat} {S S' : Nat → Prop} {s s' : RS} {k k' : Nat} {v : Value} {zs : List Int}
theorem RecU.start (h : Rec W w p S s k) : RecU W w p S s k (.slice none 0 0) [] := ⟨h, World.ownsRow_nil _ _ _ _, by simp [Value.ownBlock]⟩
theorem RecU.step (h : RecU W w p S s k v zs) (hr : Rec W w' p S' s' k') (kk : VKeep S S' w w') : RecU W w' p S' s' k' v zs :=
  ⟨hr, h.ow.keep kk.1 h.dv, fun g hg x => by rcases kk.2 g x with y | y; exact h.dv g hg y; have := h.ow.lt hg; omega⟩
theorem RecU.quiet (h : RecU W w p S s k v zs) (kk : Keep (fun _ => False) w w') : RecU W w' p S s k v zs := ⟨h.r.quiet kk, h.ow.keep kk (by simp), h.dv⟩
theorem RecU.more (h : RecU W w p S s k v zs) {n : Nat} (hn : k ≤ n) : RecU W w p S s n v zs := ⟨h.r.more hn, h.ow, h.dv⟩
theorem RecU.push (h : RecU W w p S s k v zs) {g c : Nat} {l : Int} (o : OwnU W.heap.size w' (.slice (some ⟨g, 0, none⟩) (zs.length + 1) c) (zs ++ [l])) (kk : Keep (fun j => v.ownBlock = some j) w w') (hg : v.ownBlock = some g ∨ w.heap.size ≤ g) : RecU W w' p S s k (.slice (some ⟨g, 0, none⟩) (zs.length + 1) c) (zs ++ [l]) := by
  have bs := h.r.b.size
  refine ⟨⟨h.r.h.keep kk (fun x hx y => h.dv x y hx), h.r.ok, h.r.g, h.r.b.trans (kk.below bs (fun x hx => (h.ow.lt hx).1)), h.r.c⟩, o, fun x hx y => ?_⟩
  cases hx
  rcases hg with z | z
  · exact h.dv _ z y
  · have : g < w.heap.size := h.r.h.lt _ y
    omega
end
/-- 1, 2, .. k. -/
def upTo (k : Nat) : List Int := (List.range k).map fun (j : Nat) => (j : Int) + 1
theorem upTo_len (k : Nat) : (upTo k).length = k := by simp [upTo]
theorem upTo_succ (k : Nat) : upTo (k + 1) = upTo k ++ [(k : Int) + 1] := by simp [upTo, List.range_succ]
theorem upTo_get (k j : Nat) (h : j < k) : (upTo k).getD j 0 = (j : Int) + 1 := by simp [upTo, List.getD_eq_getElem?_getD, h]
/-- A slice of the call's own that is not empty. -/
theorem own_at {B : Nat} {w : World} {v : Value} {k : Nat} (h : OwnU B w v (upTo k)) (hk : 0 < k) : ∃ g c, v = .slice (some ⟨g, 0, none⟩) k c := by
  obtain ⟨h1, h2⟩ := h
  rcases h2 with ⟨_, h3⟩ | ⟨g, c, _, hv, _⟩
  · rw [upTo_len] at h3; omega
  · exact ⟨g, c, by rw [hv, upTo_len]⟩
theorem gave_live_other (s : St) (i : Nat) (l : Int) (h : slotOf l ≠ i) : (s.gave i).live l = s.live l := by
  obtain ⟨g1, g2, _, g4⟩ := gave_parts s i
  have e1 : (s.gave i).tk (slotOf l) = s.tk (slotOf l) := by
    simp only [St.tk, g2, List.getD_eq_getElem?_getD, List.getElem?_set, Ne.symm h, if_false]
  have e2 : (s.gave i).link (slotOf l) = s.link (slotOf l) := by unfold St.link; rw [g4 _ h]
  unfold slotOf at e1 e2
  unfold St.live
  rw [g1, e1, e2]
theorem gave_live_self (s : St) (i : Nat) (l : Int) (h : slotOf l = i) : (s.gave i).live l = false := by
  obtain ⟨g1, g2, _, g4⟩ := gave_parts s i
  cases hl : (s.gave i).live l with
  | false => rfl
  | true =>
    obtain ⟨h1, h2, _⟩ := slot_live hl
    rw [h] at h1 h2
    have e : (s.taken.set i false).getD i false = false := by
      rw [List.getD_eq_getElem?_getD, List.getElem?_set]
      by_cases hi : i < s.taken.length <;> simp [hi]
    unfold St.tk at h2
    rw [g2, e] at h2
    cases h2
theorem used_len {s : RS} (ok : ROk s) : s.used = (s.links.length : Int) := by
  unfold RS.used RS.links
  rw [allTo_cnt s.s _ (by rw [ok.p.tl]; exact Nat.le_refl _), ← ok.p.tl, List.take_length]
/-- Of n versions in a row those of the first k are gone whose bit is set. -/
structure Gone (s : RS) (n k : Nat) (bit : Nat → Bool) (f : Nat → Ver) (u : Int) : Prop where
  live : ∀ j, j < n → s.s.live ((j : Int) + 1) = (decide (k ≤ j) || !bit j)
  ver : ∀ j, j < n → s.ver j = f j
  ct : cnt s.s.taken = u
  u0 : 0 ≤ u
  u1 : u ≤ n
section
variable {s : RS} {n k : Nat} {bit : Nat → Bool} {f : Nat → Ver} {u : Int}
theorem Gone.tick (h : Gone s n k bit f u) : Gone s.tick n k bit f u := ⟨h.live, h.ver, h.ct, h.u0, h.u1⟩
theorem Gone.start {m : Nat} (h : Fill s m n) (ok : ROk s) (hm : n ≤ m) (hv : ∀ j, j < n → s.ver j = f j) : Gone s n 0 bit f n :=
  ⟨fun j hj => by rw [h.live ok j hj hm]; simp, hv, h.ct, by omega, by omega⟩
theorem Gone.skip (h : Gone s n k bit f u) (hb : bit k = false) : Gone s n (k + 1) bit f u := by
  refine ⟨fun j hj => ?_, h.ver, h.ct, h.u0, h.u1⟩
  rw [h.live j hj]
  by_cases e : j = k
  · subst e; simp [hb]
  · congr 1; exact decide_eq_decide.2 (by omega)
theorem slotOf_succ (j : Nat) (h : j < 131071) : slotOf ((j : Int) + 1) = j := by unfold slotOf; omega
theorem Gone.free (h : Gone s n k bit f u) (ok : ROk s) (hk : k < n) (hn : n < 131071) (hb : bit k = true) :
    ∃ s', s.free ((k : Int) + 1) = (0, s') ∧ s'.s.live ((k : Int) + 1) = false ∧ Gone s' n (k + 1) bit f (u - 1) := by
  have hl : s.s.live ((k : Int) + 1) = true := by rw [h.live k hk]; simp
  have sk := slotOf_succ k (by omega)
  obtain ⟨h1, h2, _⟩ := slot_live hl
  rw [sk] at h1 h2
  have hkt : k < s.s.taken.length := by rw [ok.p.tl]; exact h1
  obtain ⟨g1, g2, _, _⟩ := gave_parts s.s k
  have dead := gave_live_self s.s k ((k : Int) + 1) sk
  have c1 : s.s.taken.getD k false = true := h2
  have c2 := cnt_set s.s.taken k hkt false
  rw [c1] at c2
  have c3 : cnt (s.s.taken.set k false) = u - 1 := by rw [c2, h.ct]; simp
  have c4 := cnt_nonneg (s.s.taken.set k false)
  refine ⟨⟨s.s.gave k, s.r, s.c + 64⟩, by unfold RS.free; rw [if_pos hl, sk], dead, ⟨fun j hj => ?_, h.ver, ?_, by omega, by have := h.u1; omega⟩⟩
  · by_cases e : j = k
    · subst e
      show (s.s.gave j).live _ = _
      rw [dead]; simp [hb]
    · show (s.s.gave k).live _ = _
      rw [gave_live_other _ _ _ (by rw [slotOf_succ j (by omega)]; exact e), h.live j hj]
      congr 1; exact decide_eq_decide.2 (by omega)
  · show cnt (s.s.gave k).taken = _
    rw [g2]; exact c3
theorem Gone.get_yes (h : Gone s n n bit f u) (j : Nat) (hj : j < n) (hn : n < 131071) (hb : bit j = false) : s.get ((j : Int) + 1) = .tuple #[verV (f j), .bool true] := by
  unfold RS.get
  rw [h.live j hj, if_pos (by simp [hb]), slotOf_succ j (by omega), h.ver j hj]
theorem Gone.get_no (h : Gone s n n bit f u) (j : Nat) (hj : j < n) (hb : bit j = true) : s.get ((j : Int) + 1) = .tuple #[verV ⟨0, 0, 0, 0, 0⟩, .bool false] :=
  dead_get (by rw [h.live j hj]; simp [hb]; omega)
end
end Go.Proofs.YtmfpjnlplimkeaaGreat
