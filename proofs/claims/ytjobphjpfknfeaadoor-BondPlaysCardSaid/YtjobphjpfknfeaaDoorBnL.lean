/- Package bond's contracts in the document's own words (BdS): since world W Bonds have been made at p, they lie in blocks S and hold s. Conditions: the table of math/bits as the program lays it, ids of 64 bits. -/
import Derived.Test.YtjobphjpfknfeaaDoorBnS
namespace Go.Proofs.YtjobphjpfknfeaaDoor
open Go.ChangeShapes Go.WideShapes Go.ChangeAt Go.RowKit
set_option linter.unusedVariables false
open Classical

def Bd (W w : World) (p : Nat) (S : Nat → Prop) (s : BdS) : Prop :=
  ∃ m v bs xs, BdC w p m v bs xs ∧ Rel xs s ∧ (∀ g, S g ↔ BFt p m v bs xs.length g) ∧ (∀ g, S g → W.heap.size ≤ g) ∧ Below W.heap.size W w ∧ TabW W
section
variable {W w w' : World} {p : Nat} {S S' T : Nat → Prop} {s s' : BdS} {id tt r : Int} {l : List Int}
theorem TabW.lt (h : TabW W) : 0 < W.heap.size := lt_of_cell (h 0 (by decide))
theorem TabW.on (h : TabW W) (b : Below W.heap.size W w) : TabW w := h.keep (up_of b) (by have := h.lt; omega)
theorem Bd.below (h : Bd W w p S s) : Below W.heap.size W w := by obtain ⟨_, _, _, _, _, _, _, _, b, _⟩ := h; exact b
theorem Bd.ge (h : Bd W w p S s) : ∀ g, S g → W.heap.size ≤ g := by obtain ⟨_, _, _, _, _, _, _, g, _⟩ := h; exact g
theorem Bd.lt (h : Bd W w p S s) : ∀ g, S g → g < w.heap.size := by obtain ⟨_, _, _, _, c, _, e, _⟩ := h; exact fun g hg => c.lt g ((e g).1 hg)
theorem Bd.keep (h : Bd W w p S s) (k : Keep T w w') (hn : ∀ g, S g → ¬ T g) (hT : ∀ g, T g → W.heap.size ≤ g) : Bd W w' p S s := by
  obtain ⟨m, v, bs, xs, c, rl, e, g, b, t⟩ := h
  exact ⟨m, v, bs, xs, c.keep k (fun q hq => hn q ((e q).2 hq)), rl, e, g, b.trans (k.below b.size hT), t⟩
theorem Bd.later (h : Bd W w p S s) (k : Keep (fun _ => False) w w') : Bd W w' p S s := h.keep k (fun _ _ q => q) (fun _ q => q.elim)
theorem bd_new (hT : TabW W) (b : Below W.heap.size W w) : Calls Tryd.prog 10 #[] w fun e w' => ∃ p S, e = .returned (.pointer (some ⟨p, 0, .none⟩)) ∧ Bd W w' p S BdS.new ∧ Keep (fun _ => False) w w' ∧ ∀ g, S g → w.heap.size ≤ g := by
  refine (New_any w).mono ?_
  rintro e w' ⟨p, m, rfl, c, k, hp, hm⟩
  have ft : ∀ g, BFt p m (.slice .none 0 0) [] ([] : List Pty).length g → w.heap.size ≤ g := fun g hg => by
    rcases hg with rfl | rfl | hg | ⟨i, hi, _⟩
    · exact hp
    · exact hm
    · cases hg
    · exact absurd hi (Nat.not_lt_zero i)
  exact ⟨p, BFt p m (.slice .none 0 0) [] ([] : List Pty).length, rfl, ⟨m, _, _, _, c, Rel.none, fun g => Iff.rfl, fun g hg => Nat.le_trans b.size (ft g hg), b.trans (k.below b.size fun _ q => q.elim), hT⟩, k, ft⟩
theorem bd_open (h : Bd W w p S s) (hid : I64 id) (hs : s.open id = (r, s')) : Calls Tryd.prog 11 #[.pointer (some ⟨p, 0, .none⟩), .int .i64 id] w fun e w' => e = .returned (.int .i64 r) ∧ ∃ S', Bd W w' p S' s' ∧ VKeep S S' w w' := by
  obtain ⟨m, v, bs, xs, c, rl, e, g, b, t⟩ := h
  have same : ∀ {w' : World}, w = w' → ∃ S', Bd W w' p S' s ∧ VKeep S S' w w' := fun q => by subst q; exact ⟨S, ⟨m, v, bs, xs, c, rl, e, g, b, t⟩, Keep.refl _ _, fun k hk => .inl hk⟩
  unfold BdS.open at hs
  by_cases h1 : id < 1
  · rw [if_pos h1] at hs
    obtain ⟨rfl, rfl⟩ : 1 = r ∧ s = s' := by simpa using hs
    exact (Open_bad h1).mono fun _ _ q => ⟨q.1, same q.2⟩
  · rw [if_neg h1] at hs
    by_cases h2 : s.has id
    · rw [if_pos h2] at hs
      obtain ⟨rfl, rfl⟩ : 12 = r ∧ s = s' := by simpa using hs
      obtain ⟨i, hi, ei⟩ := rl.has.1 h2
      exact (Open_old c h1 hid hi ei).mono fun _ _ q => ⟨q.1, same q.2⟩
    · rw [if_neg h2] at hs
      have hn : NoId xs id := fun i hi ei => h2 (rl.has.2 ⟨i, hi, ei⟩)
      have hl : s.ids.length = xs.length := by rw [rl.ids]; simp
      by_cases h3 : 2000 ≤ s.ids.length
      · rw [if_pos h3] at hs
        obtain ⟨rfl, rfl⟩ : 65 = r ∧ s = s' := by simpa using hs
        exact (Open_many c h1 hid hn (by omega)).mono fun _ _ q => ⟨q.1, same q.2⟩
      · rw [if_neg h3] at hs
        obtain ⟨rfl, rfl⟩ : 0 = r ∧ _ = s' := by simpa using hs
        refine (Open_new c h1 hid hn (by omega)).mono ?_
        rintro e' w' ⟨rfl, v', b', c', k', hb, hg⟩
        have k2 : Keep S w w' := k'.mono fun j hj => (e j).2 hj
        have new : ∀ j, BFt p m v' (bs ++ [b']) (xs ++ [newP id]).length j → S j ∨ w.heap.size ≤ j := fun j hj => by
          rcases hj with hj | hj | hj | ⟨i, hi, ei⟩
          · exact .inl ((e j).2 (.inl hj))
          · exact .inl ((e j).2 (.inr (.inl hj)))
          · rcases hg j hj with q | q
            · exact .inl ((e j).2 (.inr (.inr (.inl q))))
            · exact .inr q
          · rw [List.length_append, List.length_singleton] at hi
            rw [bs_push c.bl] at ei
            by_cases q : i < xs.length
            · rw [if_pos q] at ei
              exact .inl ((e j).2 (.inr (.inr (.inr ⟨i, q, ei⟩))))
            · rw [if_neg q, if_pos (by omega)] at ei
              exact .inr (by omega)
        refine ⟨rfl, BFt p m v' (bs ++ [b']) (xs ++ [newP id]).length, ⟨m, v', _, _, c', rl.opened hn (by omega), fun _ => Iff.rfl, fun j hj => ?_, b.trans (k2.below b.size g), t⟩, k2, new⟩
        rcases new j hj with q | q
        · exact g j q
        · exact Nat.le_trans b.size q
/-- What a call leaves that turns parties alone. -/
theorem Bd.turn {m : Nat} {v : Value} {bs : List Nat} {xs ys : List Pty} (e : ∀ g, S g ↔ BFt p m v bs xs.length g) (g : ∀ g, S g → W.heap.size ≤ g) (b : Below W.heap.size W w) (t : TabW W) (c : BdC w' p m v bs ys) (rl : Rel ys s') (hl : ys.length = xs.length) (k : Keep (PFt bs xs.length) w w') : Bd W w' p S s' ∧ Keep S w w' := by
  have k2 : Keep S w w' := k.mono fun j hj => (e j).2 (.inr (.inr (.inr hj)))
  exact ⟨⟨m, v, bs, ys, c, rl, fun j => by rw [e j, hl], g, b.trans (k2.below b.size g), t⟩, k2⟩
theorem Bd.far {m : Nat} {v : Value} {bs : List Nat} {xs : List Pty} (e : ∀ g, S g ↔ BFt p m v bs xs.length g) (g : ∀ g, S g → W.heap.size ≤ g) (t : TabW W) : ¬ PFt bs xs.length 0 := fun q => by
  have := g _ ((e _).2 (.inr (.inr (.inr q))))
  have := t.lt
  omega
theorem bd_bind_in (h : Bd W w p S s) (hid : I64 id) (htt : I64 tt) (hs : s.bind id tt = (r, s')) : Calls Tryd.prog 12 #[.pointer (some ⟨p, 0, .none⟩), .int .i64 id, .int .i64 tt] w fun e w' => e = .returned (.int .i64 r) ∧ Bd W w' p S s' ∧ Keep S w w' := by
  obtain ⟨m, v, bs, xs, c, rl, e, g, b, t⟩ := h
  have same : ∀ {w' : World}, Keep (fun _ => False) w w' → Bd W w' p S s ∧ Keep S w w' := fun q => ⟨Bd.later ⟨m, v, bs, xs, c, rl, e, g, b, t⟩ q, q.mono (fun _ q => q.elim)⟩
  unfold BdS.bind at hs
  by_cases h1 : ¬ s.has id ∨ ¬ s.has tt
  · rw [if_pos h1] at hs
    obtain ⟨rfl, rfl⟩ : 11 = r ∧ s = s' := by simpa using hs
    exact (Bind_no c hid htt (h1.imp (fun q i hi ei => q (rl.has.2 ⟨i, hi, ei⟩)) (fun q i hi ei => q (rl.has.2 ⟨i, hi, ei⟩)))).mono fun _ _ q => ⟨q.1, same q.2⟩
  · rw [if_neg h1] at hs
    obtain ⟨i, hi, ei⟩ := rl.has.1 (Classical.byContradiction fun q => h1 (.inl q))
    obtain ⟨j, hj, ej⟩ := rl.has.1 (Classical.byContradiction fun q => h1 (.inr q))
    by_cases h2 : id = tt
    · rw [if_pos h2] at hs
      obtain ⟨rfl, rfl⟩ : 1 = r ∧ s = s' := by simpa using hs
      subst h2
      exact (Bind_self c hid hi ei).mono fun _ _ q => ⟨q.1, same q.2⟩
    · rw [if_neg h2] at hs
      have hne : i ≠ j := fun q => h2 (by rw [← ei, ← ej, q])
      rw [← ei, ← ej, rl.st hi, rl.st hj, ← rl.bo i j hi hj, ← rl.be j i hj hi] at hs
      have FAR := Bd.far e g t
      have tw := t.on b
      have rgi := rl.rng i hi
      have rgj := rl.rng j hj
      have go : ∀ ys, (if (pty xs i).st = 3 ∨ (pty xs i).st = 4 then (7, xs) else bindX xs i j) = (r, ys) → Rel ys s' ∧ ys.length = xs.length → Calls Tryd.prog 12 #[.pointer (some ⟨p, 0, .none⟩), .int .i64 id, .int .i64 tt] w fun e w' => e = .returned (.int .i64 r) ∧ Bd W w' p S s' ∧ Keep S w w' := fun ys hr hy =>
        (Bind_go c hid htt hi ei hj ej hne rl.inx tw tw.lt FAR hr).mono fun _ _ q => ⟨q.1, Bd.turn e g b t q.2.1 hy.1 hy.2 q.2.2⟩
      by_cases h3 : (pty xs i).st = 3 ∨ (pty xs i).st = 4
      · rw [if_pos h3] at hs
        obtain ⟨rfl, rfl⟩ : 7 = r ∧ s = s' := by simpa using hs
        exact go xs (by rw [if_pos h3]) ⟨rl, rfl⟩
      · rw [if_neg h3] at hs
        have s3 : (pty xs i).st ≠ 3 := fun q => h3 (.inl q)
        by_cases h4 : (pty xs j).st = 3 ∨ (pty xs i).bo j
        · rw [if_pos h4] at hs
          obtain ⟨rfl, rfl⟩ : 0 = r ∧ s = s' := by simpa using hs
          exact go xs (by rw [if_neg h3]; unfold bindX; rw [if_pos h4]) ⟨rl, rfl⟩
        · rw [if_neg h4] at hs
          by_cases h5 : (pty xs j).st = 4
          · rw [if_pos h5] at hs
            obtain ⟨rfl, rfl⟩ : 0 = r ∧ s.doom (pty xs i).id = s' := by simpa using hs
            exact go (doomX xs i) (by rw [if_neg h3]; unfold bindX; rw [if_neg h4, if_pos h5]) ⟨rl.doomed hi s3, doomX_len⟩
          · rw [if_neg h5] at hs
            by_cases h6 : (pty xs j).be i
            · rw [if_pos h6] at hs
              obtain ⟨rfl, rfl⟩ : 17 = r ∧ s = s' := by simpa using hs
              exact go xs (by rw [if_neg h3]; unfold bindX; rw [if_neg h4, if_neg h5, if_pos h6]) ⟨rl, rfl⟩
            · rw [if_neg h6] at hs
              obtain ⟨rl2, rx⟩ := rl.tied hi hj s3 (fun q => h4 (.inl q)) (fun q => h6 ((rl.be j i hj hi).2 q)) hne
              obtain ⟨x2, ex2⟩ : ∃ x2, carryX (xs.set i (tieP j (pty xs i))) i j = x2 := ⟨_, rfl⟩
              have l2 : x2.length = xs.length := by rw [← ex2]; exact carry_len.trans List.length_set
              have same2 := carry_same (rl.inx.tie hi hj) (kx := i) (ky := j) (by rw [List.length_set]; exact hi) (by rw [List.length_set]; exact hj) i
              rw [ex2] at rl2 same2
              have i2 : (pty x2 i).id = (pty xs i).id ∧ (pty x2 i).st = (pty xs i).st := by
                rw [same2.1, same2.2.1, pty_set i i hi, if_pos rfl]
                exact ⟨rfl, rfl⟩
              by_cases h7 : (pty xs j).st = 2
              · have rd := rl2.doomed (k := i) (by rw [l2]; exact hi) (by rw [i2.2]; exact s3)
                rw [i2.1] at rd
                have es : ({ s with ed := s.ed ++ [((pty xs i).id, (pty xs j).id)] } : BdS).doom (pty xs i).id = { s.doom (pty xs i).id with ed := s.ed ++ [((pty xs i).id, (pty xs j).id)] } := by
                  unfold BdS.doom
                  simp only [rx]
                rw [es] at rd
                rw [if_pos h7] at hs
                obtain ⟨rfl, rfl⟩ := Prod.mk.inj hs
                exact go (doomX x2 i) (by rw [if_neg h3]; unfold bindX; rw [if_neg h4, if_neg h5, if_neg h6, if_pos h7, ex2]) ⟨rd, doomX_len.trans l2⟩
              · rw [if_neg h7] at hs
                obtain ⟨rfl, rfl⟩ := Prod.mk.inj hs
                exact go x2 (by rw [if_neg h3]; unfold bindX; rw [if_neg h4, if_neg h5, if_neg h6, if_neg h7, ex2]) ⟨rl2, l2⟩
theorem bd_good_in (h : Bd W w p S s) (hid : I64 id) (hs : s.good id = ((l, r), s')) : Calls Tryd.prog 14 #[.pointer (some ⟨p, 0, .none⟩), .int .i64 id] w fun e w' => ∃ u, e = .returned (.tuple #[u, .int .i64 r]) ∧ OwnN w.heap.size w' u l ∧ Bd W w' p S s' ∧ Keep S w w' := by
  obtain ⟨m, v, bs, xs, c, rl, e, g, b, t⟩ := h
  have same : ∀ {w' : World}, w = w' → OwnN w.heap.size w' (.slice .none 0 0) [] ∧ Bd W w' p S s ∧ Keep S w w' := fun q => by subst q; exact ⟨World.ownsRow_nil _ _ _ _, ⟨m, v, bs, xs, c, rl, e, g, b, t⟩, Keep.refl _ _⟩
  unfold BdS.good at hs
  by_cases h1 : ¬ s.has id
  · rw [if_pos h1] at hs
    obtain ⟨⟨rfl, rfl⟩, rfl⟩ : ([] = l ∧ 11 = r) ∧ s = s' := by simpa using hs
    exact (Good_no c hid fun i hi ei => h1 (rl.has.2 ⟨i, hi, ei⟩)).mono fun _ _ q => ⟨_, q.1, same q.2⟩
  · rw [if_neg h1] at hs
    obtain ⟨i, hi, rfl⟩ := rl.has.1 (Classical.byContradiction h1)
    rw [rl.st hi] at hs
    by_cases h2 : (pty xs i).st ≠ 1
    · rw [if_pos h2] at hs
      obtain ⟨⟨rfl, rfl⟩, rfl⟩ : ([] = l ∧ 7 = r) ∧ s = s' := by simpa using hs
      exact (Good_late c hid hi rfl h2).mono fun _ _ q => ⟨_, q.1, same q.2⟩
    · rw [if_neg h2] at hs
      have h2 : (pty xs i).st = 1 := Classical.byContradiction h2
      by_cases h3 : s.waits (pty xs i).id ≠ []
      · rw [if_pos h3] at hs
        obtain ⟨⟨rfl, rfl⟩, rfl⟩ : ([] = l ∧ 18 = r) ∧ s = s' := by simpa using hs
        exact (Good_wait c hid hi rfl h2 fun q => h3 ((rl.idle hi).1 q)).mono fun _ _ q => ⟨_, q.1, same q.2⟩
      · rw [if_neg h3] at hs
        have h3 : s.waits (pty xs i).id = [] := Classical.byContradiction h3
        obtain ⟨rw1, rw2, rw3⟩ := rl.well hi h2 h3
        obtain ⟨hs1, rfl⟩ := Prod.mk.inj hs
        obtain ⟨rfl, rfl⟩ := Prod.mk.inj hs1
        refine (Good_at c hid hi rfl h2 ((rl.idle hi).2 h3) rl.inx rw3 (t.on b) (Bd.far e g t)).mono ?_
        rintro e' w' ⟨u, rfl, ou, c', k'⟩
        rw [rw2] at ou
        exact ⟨u, rfl, ou, Bd.turn e g b t c' rw1 ((updL_len _ _).trans List.length_set) k'⟩
theorem bd_bad_in (h : Bd W w p S s) (hid : I64 id) (hs : s.bad id = ((l, r), s')) : Calls Tryd.prog 17 #[.pointer (some ⟨p, 0, .none⟩), .int .i64 id] w fun e w' => ∃ u, e = .returned (.tuple #[u, .int .i64 r]) ∧ OwnN w.heap.size w' u l ∧ Bd W w' p S s' ∧ Keep S w w' := by
  obtain ⟨m, v, bs, xs, c, rl, e, g, b, t⟩ := h
  have same : ∀ {w' : World}, Keep (fun _ => False) w w' → OwnN w.heap.size w' (.slice .none 0 0) [] ∧ Bd W w' p S s ∧ Keep S w w' := fun q => ⟨World.ownsRow_nil _ _ _ _, Bd.later ⟨m, v, bs, xs, c, rl, e, g, b, t⟩ q, q.mono (fun _ q => q.elim)⟩
  unfold BdS.bad at hs
  by_cases h1 : ¬ s.has id
  · rw [if_pos h1] at hs
    obtain ⟨⟨rfl, rfl⟩, rfl⟩ : ([] = l ∧ 11 = r) ∧ s = s' := by simpa using hs
    exact (Bad_no c hid fun i hi ei => h1 (rl.has.2 ⟨i, hi, ei⟩)).mono fun _ _ q => ⟨_, q.1, same (by rw [← q.2]; exact Keep.refl _ _)⟩
  · rw [if_neg h1] at hs
    obtain ⟨i, hi, rfl⟩ := rl.has.1 (Classical.byContradiction h1)
    rw [rl.st hi] at hs
    have rg := rl.rng i hi
    by_cases h2 : (pty xs i).st = 3 ∨ (pty xs i).st = 4
    · rw [if_pos h2] at hs
      obtain ⟨⟨rfl, rfl⟩, rfl⟩ : ([] = l ∧ 7 = r) ∧ s = s' := by simpa using hs
      exact (Bad_late c hid hi rfl (by omega)).mono fun _ _ q => ⟨_, q.1, same q.2⟩
    · rw [if_neg h2] at hs
      obtain ⟨rb1, rb2⟩ := rl.bad hi (by omega)
      have tw := t.on b
      obtain ⟨hs1, rfl⟩ := Prod.mk.inj hs
      obtain ⟨rfl, rfl⟩ := Prod.mk.inj hs1
      refine (Bad_at c hid hi rfl (by omega) rl.inx tw tw.lt (Bd.far e g t)).mono ?_
      rintro e' w' ⟨u, rfl, ou, c', k'⟩
      rw [rb2] at ou
      exact ⟨u, rfl, ou, Bd.turn e g b t c' rb1 ((doomL_len _ _).trans List.length_set) k'⟩
theorem bd_bind (h : Bd W w p S s) (hid : I64 id) (htt : I64 tt) (hs : s.bind id tt = (r, s')) : Calls Tryd.prog 12 #[.pointer (some ⟨p, 0, .none⟩), .int .i64 id, .int .i64 tt] w fun e w' => e = .returned (.int .i64 r) ∧ ∃ S', Bd W w' p S' s' ∧ VKeep S S' w w' :=
  (bd_bind_in h hid htt hs).mono fun _ _ ⟨a, b, c⟩ => ⟨a, S, b, c, fun _ q => .inl q⟩
theorem bd_good (h : Bd W w p S s) (hid : I64 id) (hs : s.good id = ((l, r), s')) : Calls Tryd.prog 14 #[.pointer (some ⟨p, 0, .none⟩), .int .i64 id] w fun e w' => ∃ u, e = .returned (.tuple #[u, .int .i64 r]) ∧ OwnN w.heap.size w' u l ∧ ∃ S', Bd W w' p S' s' ∧ VKeep S S' w w' :=
  (bd_good_in h hid hs).mono fun _ _ ⟨u, a, o, b, c⟩ => ⟨u, a, o, S, b, c, fun _ q => .inl q⟩
theorem bd_bad (h : Bd W w p S s) (hid : I64 id) (hs : s.bad id = ((l, r), s')) : Calls Tryd.prog 17 #[.pointer (some ⟨p, 0, .none⟩), .int .i64 id] w fun e w' => ∃ u, e = .returned (.tuple #[u, .int .i64 r]) ∧ OwnN w.heap.size w' u l ∧ ∃ S', Bd W w' p S' s' ∧ VKeep S S' w w' :=
  (bd_bad_in h hid hs).mono fun _ _ ⟨u, a, o, b, c⟩ => ⟨u, a, o, S, b, c, fun _ q => .inl q⟩
theorem bd_state (h : Bd W w p S s) (hid : I64 id) : Calls Tryd.prog 18 #[.pointer (some ⟨p, 0, .none⟩), .int .i64 id] w fun e w' => e = .returned (.int .i64 (s.st id)) ∧ w = w' := by
  obtain ⟨m, v, bs, xs, c, rl, _⟩ := h
  by_cases h1 : s.has id
  · obtain ⟨i, hi, rfl⟩ := rl.has.1 h1
    rw [rl.st hi]
    exact state_at c i hi hid rfl
  · have hn : NoId xs id := fun i hi ei => h1 (rl.has.2 ⟨i, hi, ei⟩)
    rw [rl.st0 hn]
    exact state_no c hid hn
theorem bd_for (h : Bd W w p S s) (hid : I64 id) : Calls Tryd.prog 25 #[.pointer (some ⟨p, 0, .none⟩), .int .i64 id] w fun e w' => ∃ u, e = .returned u ∧ OwnN w.heap.size w' u (s.waits id) ∧ Keep (fun _ => False) w w' := by
  obtain ⟨m, v, bs, xs, c, rl, e, g, b, t⟩ := h
  by_cases h1 : s.has id
  · obtain ⟨i, hi, rfl⟩ := rl.has.1 h1
    rw [← rl.waits hi]
    exact (for_at c i hi hid rfl (fun q hq => (rl.inx i hi q hq).1) (t.on b)).mono fun _ _ ⟨u, q1, q2, q3⟩ => ⟨u, q1, q2, keep_of q3 _⟩
  · have hn : NoId xs id := fun i hi ei => h1 (rl.has.2 ⟨i, hi, ei⟩)
    rw [rl.waits0 hn]
    refine (for_no c hid hn).mono ?_
    rintro e' w' ⟨rfl, rfl⟩
    exact ⟨_, rfl, World.ownsRow_nil _ _ _ _, Keep.refl _ _⟩
theorem bd_waits (h : Bd W w p S s) (hid : I64 id) : Calls Tryd.prog 13 #[.pointer (some ⟨p, 0, .none⟩), .int .i64 id] w fun e w' => e = .returned (.int .i64 (s.waits id).length) ∧ Keep (fun _ => False) w w' := by
  obtain ⟨m, v, bs, xs, c, rl, e, g, b, t⟩ := h
  by_cases h1 : s.has id
  · obtain ⟨i, hi, rfl⟩ := rl.has.1 h1
    rw [← rl.waits_len hi]
    exact (Waits_at c i hi hid rfl (fun q hq => (rl.inx i hi q hq).1) (t.on b)).mono fun _ _ ⟨q1, q2⟩ => ⟨q1, keep_of q2 _⟩
  · have hn : NoId xs id := fun i hi ei => h1 (rl.has.2 ⟨i, hi, ei⟩)
    rw [rl.waits0 hn]
    refine (Waits_no c hid hn).mono ?_
    rintro e' w' ⟨rfl, rfl⟩
    exact ⟨rfl, Keep.refl _ _⟩
end
end Go.Proofs.YtjobphjpfknfeaaDoor
