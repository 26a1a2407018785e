/- A Store, the document's own Pool, a list of links and a list of versions side by side, each in blocks of its own (o tells whose a block is; 5: the law's): what each call leaves as it was. -/
import Derived.Test.YthmohehmpleciaaRecO
import Derived.Test.YthmohehmpleciaaInv
import Derived.Test.YthmohehmpleciaaVers
import Derived.Test.YthmohehmpleciaaSameO
import Derived.Test.YthmohehmpleciaaRef3d
import Derived.Test.YthmohehmpleciaaRef3n
namespace Go.Proofs.Ythmohehmpleciaa
open Go.ChangeShapes Go.WideShapes Go.ChangeAt Go.RowKit
set_option linter.unusedVariables false

structure All (W w : World) (o : Nat → Nat) (p : Nat) (S : Nat → Prop) (st : RS) (k : Nat) (pr b1 b2 : Nat) (v3 : Value) (sr : St) (lv : Value) (zs : List Int) (vv : Value) (vs : List Ver) : Prop where
  r : Rec W w p S st k
  oS : ∀ g, S g → o g = 1
  rf : RefAt w pr b1 b2 v3 sr
  oF : ∀ g, Foot pr b1 b2 v3 g → o g = 2
  gF : ∀ g, Foot pr b1 b2 v3 g → W.heap.size ≤ g
  lw : OwnU W.heap.size w lv zs
  oL : ∀ g, lv.ownBlock = some g → o g = 3
  vw : OwnVer w vv vs
  oV : ∀ g, vv.ownBlock = some g → o g = 4
  gV : ∀ g, vv.ownBlock = some g → W.heap.size ≤ g
/-- Whose the blocks are stays; the law's own have not turned. -/
def Stay (o o' : Nat → Nat) (w w' : World) : Prop := w.heap.size ≤ w'.heap.size ∧ ∀ g, g < w.heap.size → o' g = o g ∧ (o g = 5 → w'.heap[g]? = w.heap[g]?)
theorem Stay.trans {o o1 o2 : Nat → Nat} {w w1 w2 : World} (h : Stay o o1 w w1) (k : Stay o1 o2 w1 w2) : Stay o o2 w w2 :=
  ⟨Nat.le_trans h.1 k.1, fun g hg => by
    have a := h.2 g hg
    have b := k.2 g (Nat.lt_of_lt_of_le hg h.1)
    exact ⟨b.1.trans a.1, fun e => (b.2 (a.1.trans e)).trans (a.2 e)⟩⟩
/-- A block of the law's own, with what its cells hold. -/
structure Mine (o : Nat → Nat) (w : World) (b : Nat) (cs : List Value) : Prop where
  c : ∀ i u, cs[i]? = some u → w.cell? ⟨b, i, none⟩ = some u
  o : o b = 5
  lt : b < w.heap.size
theorem Mine.stay {o o' : Nat → Nat} {w w' : World} {b : Nat} {cs : List Value} (h : Mine o w b cs) (k : Stay o o' w w') : Mine o' w' b cs := by
  obtain ⟨e, hb⟩ := k.2 b h.lt
  exact ⟨fun i u hu => by rw [World.cell?_of_block (w := w) (hb h.o)]; exact h.c i u hu, e.trans h.o, Nat.lt_of_lt_of_le h.lt k.1⟩
section
variable {W w w' : World} {o : Nat → Nat} {p : Nat} {S S' : Nat → Prop} {st st' : RS} {k k' pr b1 b2 : Nat} {v3 v4 : Value} {sr sr' : St} {lv : Value} {zs : List Int} {vv : Value} {vs : List Ver}
theorem All.more (h : All W w o p S st k pr b1 b2 v3 sr lv zs vv vs) {n : Nat} (hn : k ≤ n) : All W w o p S st n pr b1 b2 v3 sr lv zs vv vs := ⟨h.r.more hn, h.oS, h.rf, h.oF, h.gF, h.lw, h.oL, h.vw, h.oV, h.gV⟩
theorem All.vlt (h : All W w o p S st k pr b1 b2 v3 sr lv zs vv vs) {g : Nat} (hg : vv.ownBlock = some g) : g < w.heap.size := h.vw.lt hg
theorem stay_of {T : Nat → Prop} {i : Nat} (kk : Keep T w w') (hT : ∀ g, T g → o g = i) (hi : i ≠ 5) : Stay o (fun g => if g < w.heap.size then o g else i) w w' :=
  ⟨kk.size, fun g hg => ⟨if_pos hg, fun e => kk.block g hg (fun t => hi (by rw [← hT g t, e]))⟩⟩
theorem All.vstep (h : All W w o p S st k pr b1 b2 v3 sr lv zs vv vs) (hr : Rec W w' p S' st' k') (kk : VKeep S S' w w') : ∃ o', All W w' o' p S' st' k' pr b1 b2 v3 sr lv zs vv vs ∧ Stay o o' w w' := by
  refine ⟨fun g => if g < w.heap.size then o g else 1, ⟨hr, fun g hg => ?_, h.rf.keep kk.1 (fun g hg y => ?_), fun g hg => ?_, h.gF, h.lw.keep kk.1 (fun g hg y => ?_), fun g hg => ?_, h.vw.keep kk.1 (fun g hg y => ?_), fun g hg => ?_, h.gV⟩, stay_of kk.1 h.oS (by decide)⟩
  · show (if _ then _ else _) = _
    split
    · rcases kk.2 g hg with y | y
      · exact h.oS g y
      · omega
    · rfl
  · have := h.oF g hg; have := h.oS g y; omega
  · show (if _ then _ else _) = _
    rw [if_pos (h.rf.foot_lt g hg)]; exact h.oF g hg
  · have := h.oL g hg; have := h.oS g y; omega
  · show (if _ then _ else _) = _
    rw [if_pos (h.lw.lt hg).2]; exact h.oL g hg
  · have := h.oV g hg; have := h.oS g y; omega
  · show (if _ then _ else _) = _
    rw [if_pos (h.vw.lt hg)]; exact h.oV g hg
theorem All.rstep (h : All W w o p S st k pr b1 b2 v3 sr lv zs vv vs) (hr : RefAt w' pr b1 b2 v4 sr') (kk : Keep (Foot pr b1 b2 v3) w w') (g4 : ∀ k, v4.ownBlock = some k → v3.ownBlock = some k ∨ w.heap.size ≤ k) : ∃ o', All W w' o' p S st k pr b1 b2 v4 sr' lv zs vv vs ∧ Stay o o' w w' := by
  have bs := h.r.b.size
  have gf : ∀ x, Foot pr b1 b2 v4 x → Foot pr b1 b2 v3 x ∨ w.heap.size ≤ x := fun x hx => by
    rcases hx with hx | hx | hx | hx
    · exact .inl (.inl hx)
    · exact .inl (.inr (.inl hx))
    · exact .inl (.inr (.inr (.inl hx)))
    · rcases g4 x hx with y | y
      · exact .inl (.inr (.inr (.inr y)))
      · exact .inr y
  refine ⟨fun g => if g < w.heap.size then o g else 2, ⟨⟨h.r.h.keep kk (fun g hg y => ?_), h.r.ok, h.r.g, h.r.b.trans (kk.below bs h.gF), h.r.c⟩, fun g hg => ?_, hr, fun g hg => ?_, fun g hg => ?_, h.lw.keep kk (fun g hg y => ?_), fun g hg => ?_, h.vw.keep kk (fun g hg y => ?_), fun g hg => ?_, h.gV⟩, stay_of kk h.oF (by decide)⟩
  · have := h.oS g hg; have := h.oF g y; omega
  · show (if _ then _ else _) = _
    rw [if_pos (h.r.h.lt g hg)]; exact h.oS g hg
  · show (if _ then _ else _) = _
    split
    · rcases gf g hg with y | y
      · exact h.oF g y
      · omega
    · rfl
  · rcases gf g hg with y | y
    · exact h.gF g y
    · omega
  · have := h.oL g hg; have := h.oF g y; omega
  · show (if _ then _ else _) = _
    rw [if_pos (h.lw.lt hg).2]; exact h.oL g hg
  · have := h.oV g hg; have := h.oF g y; omega
  · show (if _ then _ else _) = _
    rw [if_pos (h.vw.lt hg)]; exact h.oV g hg
/-- Nothing that was there has turned; new blocks are the law's. -/
theorem All.quiet (h : All W w o p S st k pr b1 b2 v3 sr lv zs vv vs) (kk : Keep (fun _ => False) w w') : ∃ o', All W w' o' p S st k pr b1 b2 v3 sr lv zs vv vs ∧ Stay o o' w w' ∧ ∀ g, w.heap.size ≤ g → o' g = 5 := by
  refine ⟨fun g => if g < w.heap.size then o g else 5, ⟨h.r.quiet kk, fun g hg => ?_, h.rf.keep kk (by simp), fun g hg => ?_, h.gF, h.lw.keep kk (by simp), fun g hg => ?_, h.vw.keep kk (by simp), fun g hg => ?_, h.gV⟩, ⟨kk.size, fun g hg => ⟨if_pos hg, fun _ => kk.block g hg (by simp)⟩⟩, fun g hg => if_neg (by omega)⟩
  · show (if _ then _ else _) = _
    rw [if_pos (h.r.h.lt g hg)]; exact h.oS g hg
  · show (if _ then _ else _) = _
    rw [if_pos (h.rf.foot_lt g hg)]; exact h.oF g hg
  · show (if _ then _ else _) = _
    rw [if_pos (h.lw.lt hg).2]; exact h.oL g hg
  · show (if _ then _ else _) = _
    rw [if_pos (h.vw.lt hg)]; exact h.oV g hg
theorem All.lpush (h : All W w o p S st k pr b1 b2 v3 sr lv zs vv vs) {g c : Nat} {l : Int} (ow : OwnU W.heap.size w' (.slice (some ⟨g, 0, none⟩) (zs.length + 1) c) (zs ++ [l])) (kk : Keep (fun j => lv.ownBlock = some j) w w') (hg : lv.ownBlock = some g ∨ w.heap.size ≤ g) :
    ∃ o', All W w' o' p S st k pr b1 b2 v3 sr (.slice (some ⟨g, 0, none⟩) (zs.length + 1) c) (zs ++ [l]) vv vs ∧ Stay o o' w w' := by
  have bs := h.r.b.size
  refine ⟨fun g => if g < w.heap.size then o g else 3, ⟨⟨h.r.h.keep kk (fun x hx y => ?_), h.r.ok, h.r.g, h.r.b.trans (kk.below bs (fun x hx => (h.lw.lt hx).1)), h.r.c⟩, fun g hg => ?_, h.rf.keep kk (fun x hx y => ?_), fun x hx => ?_, h.gF, ow, fun x hx => ?_, h.vw.keep kk (fun x hx y => ?_), fun x hx => ?_, h.gV⟩, stay_of kk h.oL (by decide)⟩
  · have := h.oS x hx; have := h.oL x y; omega
  · show (if _ then _ else _) = _
    rw [if_pos (h.r.h.lt g hg)]; exact h.oS g hg
  · have := h.oF x hx; have := h.oL x y; omega
  · show (if _ then _ else _) = _
    rw [if_pos (h.rf.foot_lt x hx)]; exact h.oF x hx
  · obtain rfl : g = x := by simpa [Value.ownBlock] using hx
    show (if _ then _ else _) = _
    split
    · rcases hg with z | z
      · exact h.oL _ z
      · omega
    · rfl
  · have := h.oV x hx; have := h.oL x y; omega
  · show (if _ then _ else _) = _
    rw [if_pos (h.vw.lt hx)]; exact h.oV x hx
theorem All.vpush (h : All W w o p S st k pr b1 b2 v3 sr lv zs vv vs) {g c : Nat} {y : Ver} (ow : OwnVer w' (.slice (some ⟨g, 0, none⟩) (vs.length + 1) c) (vs ++ [y])) (kk : Keep (fun j => vv.ownBlock = some j) w w') (hg : vv.ownBlock = some g ∨ w.heap.size ≤ g) :
    ∃ o', All W w' o' p S st k pr b1 b2 v3 sr lv zs (.slice (some ⟨g, 0, none⟩) (vs.length + 1) c) (vs ++ [y]) ∧ Stay o o' w w' := by
  have bs := h.r.b.size
  refine ⟨fun g => if g < w.heap.size then o g else 4, ⟨⟨h.r.h.keep kk (fun x hx y => ?_), h.r.ok, h.r.g, h.r.b.trans (kk.below bs h.gV), h.r.c⟩, fun g hg => ?_, h.rf.keep kk (fun x hx y => ?_), fun x hx => ?_, h.gF, h.lw.keep kk (fun x hx y => ?_), fun x hx => ?_, ow, fun x hx => ?_, fun x hx => ?_⟩, stay_of kk h.oV (by decide)⟩
  · have := h.oS x hx; have := h.oV x y; omega
  · show (if _ then _ else _) = _
    rw [if_pos (h.r.h.lt g hg)]; exact h.oS g hg
  · have := h.oF x hx; have := h.oV x y; omega
  · show (if _ then _ else _) = _
    rw [if_pos (h.rf.foot_lt x hx)]; exact h.oF x hx
  · have := h.oL x hx; have := h.oV x y; omega
  · show (if _ then _ else _) = _
    rw [if_pos (h.lw.lt hx).2]; exact h.oL x hx
  · obtain rfl : g = x := by simpa [Value.ownBlock] using hx
    show (if _ then _ else _) = _
    split
    · rcases hg with z | z
      · exact h.oV _ z
      · omega
    · rfl
  · obtain rfl : g = x := by simpa [Value.ownBlock] using hx
    rcases hg with z | z
    · exact h.gV _ z
    · omega
/-- One field of one version in the list is turned. -/
theorem All.vset {g c : Nat} (h : All W w o p S st k pr b1 b2 v3 sr lv zs (.slice (some ⟨g, 0, none⟩) vs.length c) vs) (j f : Nat) (hj : j < vs.length) (hf : f < 5) (u : Value) (x : Ver) (hx : verC x = (verC vs[j]).set f u) :
    All W (w.setCell ⟨g, j * 5 + f, none⟩ u) o p S st k pr b1 b2 v3 sr lv zs (.slice (some ⟨g, 0, none⟩) (vs.set j x).length c) (vs.set j x) ∧ Stay o o w (w.setCell ⟨g, j * 5 + f, none⟩ u) := by
  have og : o g = 4 := h.oV g rfl
  have kk := keep_one w ⟨g, j * 5 + f, none⟩ u
  have bs := h.r.b.size
  refine ⟨⟨⟨h.r.h.keep kk (fun x hx y => ?_), h.r.ok, h.r.g, h.r.b.trans (kk.below bs (fun x hx => ?_)), h.r.c⟩, h.oS, h.rf.keep kk (fun x hx y => ?_), h.oF, h.gF, h.lw.keep kk (fun x hx y => ?_), h.oL, ?_, fun x hx => ?_, fun x hx => ?_⟩, ⟨kk.size, fun x hx => ⟨rfl, fun e => kk.block x hx (fun y => ?_)⟩⟩⟩
  · have y : x = g := y; subst y; have := h.oS _ hx; omega
  · have hx : x = g := hx; subst hx; exact h.gV _ rfl
  · have y : x = g := y; subst y; have := h.oF _ hx; omega
  · have y : x = g := y; subst y; have := h.oL _ hx; omega
  · have := h.vw.set verC_len j f hj hf u x hx
    simpa using this
  · cases hx; exact og
  · cases hx; exact h.gV _ rfl
  · have y : x = g := y; subst y; omega
end
theorem All.vput {W w : World} {o : Nat → Nat} {p : Nat} {S : Nat → Prop} {st : RS} {k pr b1 b2 : Nat} {v3 : Value} {sr : St} {lv : Value} {zs : List Int} {vs : List Ver} {g c : Nat} (h : All W w o p S st k pr b1 b2 v3 sr lv zs (.slice (some ⟨g, 0, none⟩) vs.length c) vs) (j f : Nat) (hj : j < vs.length) (hf : f < 5) (u : Value) (x : Ver) (hx : verC x = (verC vs[j]).set f u) :
    All W (w.setCell ⟨g, j * 5 + f, none⟩ u) o p S st k pr b1 b2 v3 sr lv zs (.slice (some ⟨g, 0, none⟩) vs.length c) (vs.set j x) := by
  have := (h.vset j f hj hf u x hx).1
  rwa [List.length_set] at this
theorem at_live {st : RS} {zs : List Int} {vs : List Ver} (I : Inv st zs vs) {l : Int} (h : st.s.live l = true) {a : Int} (ha : lastF (-1) zs l zs.length = a) : ∃ j, ∃ hj : j < vs.length, a = (j : Int) ∧ vs[j] = st.ver (slotOf l) := by
  obtain ⟨j, h1, h2, _, h4⟩ := I.h l h
  have hj : j < vs.length := by rw [I.len]; exact h2
  refine ⟨j, hj, by omega, ?_⟩
  rw [← h4]
  simp [List.getD_eq_getElem?_getD, hj]
theorem vers_at {w : World} {v : Value} {vs : List Ver} (h : OwnVer w v vs) {j : Nat} (hj : j < vs.length) : ∃ g c, v = .slice (some ⟨g, 0, none⟩) vs.length c := by
  rcases h.form with ⟨_, z⟩ | ⟨g, c, e, _⟩
  · subst z; simp at hj
  · exact ⟨g, c, e⟩
theorem vers_cells {w : World} {vs : List Ver} {g c j : Nat} (h : OwnVer w (.slice (some ⟨g, 0, none⟩) vs.length c) vs) (hj : j < vs.length) {x : Ver} (e : vs[j] = x) :
    w.cell? ⟨g, j * 5, none⟩ = some (.int .i64 x.k) ∧ w.cell? ⟨g, j * 5 + 1, none⟩ = some (.int .i64 x.v) ∧ w.cell? ⟨g, j * 5 + 2, none⟩ = some (.int .u64 x.b) ∧ w.cell? ⟨g, j * 5 + 3, none⟩ = some (.int .u64 x.e) ∧ w.cell? ⟨g, j * 5 + 4, none⟩ = some (.int .u64 x.n) := by
  have c0 := h.cell verC_len j 0 hj (by omega)
  have c1 := h.cell verC_len j 1 hj (by omega)
  have c2 := h.cell verC_len j 2 hj (by omega)
  have c3 := h.cell verC_len j 3 hj (by omega)
  have c4 := h.cell verC_len j 4 hj (by omega)
  rw [e] at c0 c1 c2 c3 c4
  exact ⟨c0, c1, c2, c3, c4⟩
theorem Mine.new {o : Nat → Nat} {w w' : World} {b : Nat} {cs : List Value} (h : ∀ g, w.heap.size ≤ g → o g = 5) (hb : w.heap.size ≤ b) (lt : b < w'.heap.size) (c : ∀ i u, cs[i]? = some u → w'.cell? ⟨b, i, none⟩ = some u) : Mine o w' b cs := ⟨c, h b hb, lt⟩
/-- What the document's own Pool answers, in one form. -/
theorem ref_take {s : St} (ok : Ok s) : (s.top = none ∧ ∀ w p b1 b2 v3, RefAt w p b1 b2 v3 s → Calls Try.prog 22 #[.pointer (some ⟨p, 0, none⟩)] w (RPost (.tuple #[.int .u64 0, .int .i64 15]) p b1 b2 v3 s w)) ∨
    (∃ i, s.top = some i ∧ ∀ w p b1 b2 v3, RefAt w p b1 b2 v3 s → Calls Try.prog 22 #[.pointer (some ⟨p, 0, none⟩)] w (RPost (.tuple #[.int .u64 (s.link i), .int .i64 0]) p b1 b2 v3 s.took w)) := by
  rcases top_cases ok with ⟨h1, hg, hf⟩ | ⟨i, gs, h1, hg, ht, hi, hk⟩ | ⟨i, h1, hg, hf, ht, hi, hk⟩
  · refine .inl ⟨h1, fun w p b1 b2 v3 h => (rtake_full h ok hg hf).mono fun e w' ⟨a, d, b⟩ => ?_⟩
    subst b
    exact ⟨a, v3, h.keep (drewN_keep (fun _ => False) _ d) (by simp), drewN_keep _ _ d, fun k hk => .inl hk⟩
  · exact .inr ⟨i, h1, fun w p b1 b2 v3 h => by rw [ht]; exact rtake_given h ok gs i hg hi⟩
  · exact .inr ⟨i, h1, fun w p b1 b2 v3 h => by rw [ht]; exact rtake_fresh h ok hg i hf hi⟩
theorem ref_give {s : St} (ok : Ok s) {l : Int} (hl : s.live l = true) (w : World) (p b1 b2 : Nat) (v3 : Value) (h : RefAt w p b1 b2 v3 s) : Calls Try.prog 23 #[.pointer (some ⟨p, 0, none⟩), .int .u64 l] w (RPost (.int .i64 0) p b1 b2 v3 (s.gave (slotOf l)) w) := by
  obtain ⟨hi, ht, e⟩ := slot_live hl
  have tg := ok.tg (slotOf l)
  obtain ⟨i, ei⟩ : ∃ i, slotOf l = i := ⟨_, rfl⟩
  rw [ei] at hi ht e tg ⊢
  subst e
  unfold St.gave
  by_cases hm : s.tag i = s.most
  · rw [if_pos hm]; exact rgive_wear h ok i hi ht hm
  · rw [if_neg hm]; exact rgive_ok h ok i hi ht (by omega)
theorem ref_live {s : St} (ok : Ok s) (l : Int) (hb : U64 l) (r : Bool) (hr : s.live l = r) (w : World) (p b1 b2 : Nat) (v3 : Value) (h : RefAt w p b1 b2 v3 s) : Calls Try.prog 21 #[.pointer (some ⟨p, 0, none⟩), .int .u64 l] w fun e w' => e = .returned (.bool r) ∧ w = w' := by
  cases r with
  | false => exact rlive_no h ok l hb.1 hb.2 hr
  | true =>
    obtain ⟨hi, ht, e⟩ := slot_live hr
    obtain ⟨i, ei⟩ : ∃ i, slotOf l = i := ⟨_, rfl⟩
    rw [ei] at hi ht e
    subst e
    exact rlive_yes h ok i hi ht
end Go.Proofs.Ythmohehmpleciaa
