/- A Model of whole calls in plain lists, for ModelCollects: one that is swept beside one that is not. No dump; no condition. -/
import Derived.Test.YtkkjofefjepodaaModelBaseZaa
namespace Go.Proofs.Ytkkjofefjepodaa
set_option linter.unusedVariables false
set_option linter.unusedSimpArgs false
def fsts (L : List (VrI × Bool)) : List VrI := L.map Prod.fst
def kept (L : List (VrI × Bool)) : List VrI := (L.filter Prod.snd).map Prod.fst
/-- How many are left ahead of a place. -/
def rank : List (VrI × Bool) → Nat → Nat
 | [], _ => 0
 | _ :: _, 0 => 0
 | e :: L, i + 1 => if e.2 = true then rank L i + 1 else rank L i
theorem rank_succ (e : VrI × Bool) (L : List (VrI × Bool)) (i : Nat) : rank (e :: L) (i + 1) = if e.2 = true then rank L i + 1 else rank L i := rfl
section
variable {L : List (VrI × Bool)} {p : VrI → Bool} {i j : Nat} {e e' : VrI × Bool}
theorem kept_cons (e : VrI × Bool) (L : List (VrI × Bool)) : kept (e :: L) = if e.2 = true then e.1 :: kept L else kept L := by
 unfold kept
 rw [List.filter_cons]
 split <;> rfl
theorem kept_append (L M : List (VrI × Bool)) : kept (L ++ M) = kept L ++ kept M := by unfold kept; rw [List.filter_append, List.map_append]
theorem find_kept (h : ∀ e ∈ L, p e.1 = true → e.2 = true) : (kept L).findIdx? p = ((fsts L).findIdx? p).map (rank L) := by
  induction L with
  | nil => rfl
  | cons a L ih =>
    have ih := ih fun e he => h e (List.mem_cons_of_mem _ he)
    have ha := h a (List.mem_cons_self ..)
    show _ = ((a.1 :: fsts L).findIdx? p).map (rank (a :: L))
    rw [kept_cons, List.findIdx?_cons]
    cases hp : p a.1 with
    | true =>
      rw [if_pos (ha hp), List.findIdx?_cons, hp]
      rfl
    | false =>
      simp only [Bool.false_eq_true, if_false, Option.map_map]
      cases hb : a.2 with
      | true =>
        simp only [if_true]
        rw [List.findIdx?_cons, hp, ih]
        simp only [Bool.false_eq_true, if_false, Option.map_map]
        congr 1
        funext k
        simp [rank, hb]
      | false =>
        simp only [Bool.false_eq_true, if_false]
        rw [ih]
        congr 1
        funext k
        simp [rank, hb]
theorem get_kept (hi : L[i]? = some e) (he : e.2 = true) : (kept L)[rank L i]? = some e.1 := by
  induction L generalizing i with
  | nil => cases hi
  | cons a L ih =>
    rw [kept_cons]
    cases i with
    | zero =>
      simp at hi
      subst hi
      rw [if_pos he]
      rfl
    | succ i =>
      have := ih (by simpa using hi)
      unfold rank
      by_cases hb : a.2 = true
      · rw [if_pos hb, if_pos hb, List.getElem?_cons_succ]; exact this
      · rw [if_neg hb, if_neg hb]; exact this
theorem rank_inj (hi : L[i]? = some e) (he : e.2 = true) (hj : L[j]? = some e') (he' : e'.2 = true) (h : rank L i = rank L j) : i = j := by
  induction L generalizing i j with
  | nil => cases hi
  | cons a L ih =>
    cases i with
    | zero =>
      cases j with
      | zero => rfl
      | succ j =>
        simp at hi
        subst hi
        simp [rank, he] at h
    | succ i =>
      cases j with
      | zero =>
        simp at hj
        subst hj
        simp [rank, he'] at h
      | succ j =>
        have := ih (i := i) (j := j) (by simpa using hi) (by simpa using hj) (by
          unfold rank at h
          by_cases hb : a.2 = true
          · rw [if_pos hb, if_pos hb] at h; omega
          · rw [if_neg hb, if_neg hb] at h; exact h)
        omega
theorem modify_kept (f : VrI → VrI) (hi : L[i]? = some e) (he : e.2 = true) : kept (L.modify i fun e => (f e.1, e.2)) = (kept L).modify (rank L i) f := by
  induction L generalizing i with
  | nil => cases hi
  | cons a L ih =>
    cases i with
    | zero =>
      simp at hi
      subst hi
      show kept ((f a.1, a.2) :: L) = _
      rw [kept_cons, kept_cons, if_pos he, if_pos he]
      rfl
    | succ i =>
      have := ih (i := i) (by simpa using hi)
      show kept (a :: L.modify i _) = _
      rw [kept_cons, kept_cons, this, rank_succ]
      by_cases hb : a.2 = true
      · rw [if_pos hb, if_pos hb, if_pos hb]; rfl
      · rw [if_neg hb, if_neg hb, if_neg hb]
theorem modify_fsts (f : VrI → VrI) (L : List (VrI × Bool)) (i : Nat) : fsts (L.modify i fun e => (f e.1, e.2)) = (fsts L).modify i f := by
 unfold fsts
 apply List.ext_getElem?
 intro j
 rw [List.getElem?_map, List.getElem?_modify, List.getElem?_modify, List.getElem?_map]
 cases L[j]? with
 | none => rfl
 | some e => by_cases c : i = j <;> simp [c]
theorem map_kept (f : VrI → VrI) (L : List (VrI × Bool)) : kept (L.map fun e => (f e.1, e.2)) = (kept L).map f := by
  induction L with
  | nil => rfl
  | cons a L ih =>
    show kept ((f a.1, a.2) :: L.map _) = _
    rw [kept_cons, kept_cons, ih]
    by_cases hb : a.2 = true
    · rw [if_pos hb, if_pos hb]; rfl
    · rw [if_neg hb, if_neg hb]
theorem map_fsts (f : VrI → VrI) (L : List (VrI × Bool)) : fsts (L.map fun e => (f e.1, e.2)) = (fsts L).map f := by
 unfold fsts
 rw [List.map_map, List.map_map]
 rfl
theorem kept_len (L : List (VrI × Bool)) : (kept L).length ≤ (fsts L).length := by
 unfold kept fsts
 rw [List.length_map, List.length_map]
 exact List.length_filter_le _ _
theorem kept_any (h : ∀ e ∈ L, p e.1 = true → e.2 = true) : (kept L).any p = (fsts L).any p := by
 rw [Bool.eq_iff_iff, List.any_eq_true, List.any_eq_true]
 unfold kept fsts
 constructor
 ·rintro ⟨v, hv, q⟩
  obtain ⟨e, he, rfl⟩ := List.mem_map.1 hv
  exact ⟨e.1, List.mem_map.2 ⟨e, (List.mem_filter.1 he).1, rfl⟩, q⟩
 ·rintro ⟨v, hv, q⟩
  obtain ⟨e, he, rfl⟩ := List.mem_map.1 hv
  exact ⟨e.1, List.mem_map.2 ⟨e, List.mem_filter.2 ⟨he, h e he q⟩, rfl⟩, q⟩
theorem kept_filter (h : ∀ e ∈ L, p e.1 = true → e.2 = true) : (kept L).filter p = (fsts L).filter p := by
  induction L with
  | nil => rfl
  | cons a L ih =>
    have ih := ih fun e he => h e (List.mem_cons_of_mem _ he)
    have ha := h a (List.mem_cons_self ..)
    show _ = (a.1 :: fsts L).filter p
    rw [kept_cons, List.filter_cons]
    cases hp : p a.1 with
    | true => rw [if_pos (ha hp), List.filter_cons, hp, ih]
    | false =>
      by_cases hb : a.2 = true
      · rw [if_pos hb, List.filter_cons, hp, ih]
      · rw [if_neg hb, ih]
        simp
/-- Places of what is left, side by side. -/
theorem rank_opt {a b : Option Nat} (ha : ∀ i, a = some i → ∃ e, L[i]? = some e ∧ e.2 = true) (hb : ∀ i, b = some i → ∃ e, L[i]? = some e ∧ e.2 = true) : a.map (rank L) = b.map (rank L) ↔ a = b := by
  cases a with
  | none => cases b with
    | none => simp
    | some j => simp
  | some i => cases b with
    | none => simp
    | some j =>
      obtain ⟨e, h1, h2⟩ := ha i rfl
      obtain ⟨e', h3, h4⟩ := hb j rfl
      simp only [Option.map_some, Option.some.injEq]
      exact ⟨rank_inj h1 h2 h3 h4, fun c => by rw [c]⟩
theorem find_bit (h : ∀ e ∈ L, p e.1 = true → e.2 = true) (hf : (fsts L).findIdx? p = some i) : ∃ e, L[i]? = some e ∧ e.2 = true := by
 obtain ⟨lt, q, _⟩ := List.findIdx?_eq_some_iff_getElem.1 hf
 have lt' : i < L.length := by unfold fsts at lt; rwa [List.length_map] at lt
 refine ⟨L[i], List.getElem?_eq_getElem lt', h _ (List.getElem_mem lt') ?_⟩
 have g : (fsts L)[i]? = (L[i]?).map Prod.fst := by unfold fsts; exact List.getElem?_map
 rw [List.getElem?_eq_getElem lt, List.getElem?_eq_getElem lt'] at g
 have g := Option.some.inj g
 rwa [g] at q
end
/-- Garbage: dead, or over for all that live, and for all that will. -/
def Gb (x : MoI) (v : VrI) : Prop := v.dead = true ∨ (v.bY = 0 ∧ v.ended = 0 ∧ v.stop ≠ 0 ∧ v.start ≤ v.stop ∧ v.stop ≤ x.time ∧ ∀ i, i < 8 → (x.s i).id ≠ 0 → v.stop ≤ (x.s i).start)
theorem Gb.mono {x x' : MoI} {v : VrI} (h : Gb x v) (ht : x.time ≤ x'.time) (hs : ∀ i, i < 8 → (x'.s i).id ≠ 0 → ((x.s i).id ≠ 0 ∧ (x'.s i).start = (x.s i).start) ∨ x.time ≤ (x'.s i).start) : Gb x' v := by
 rcases h with h | ⟨h1, h2, h3, h4, h5, h6⟩
 ·exact .inl h
 ·refine .inr ⟨h1, h2, h3, h4, by omega, fun i hi hl => ?_⟩
  rcases hs i hi hl with ⟨a, b⟩ | a
  ·rw [b]; exact h6 i hi a
  ·omega
theorem Gb.gone {x : MoI} {v : VrI} (h : Gb x v) {id : Int} (h0 : id ≠ 0) : Gb x (goneV id v) := by
 rcases h with h | ⟨h1, h2, h3, h4, h5, h6⟩
 ·left
  show (if v.bY = id then true else v.dead) = true
  split
  ·rfl
  ·exact h
 ·right
  refine ⟨h1, ?_, h3, h4, h5, h6⟩
  show (if v.ended = id then (0 : Int) else v.ended) = 0
  split
  ·rfl
  ·exact h2
theorem Gb.done {x : MoI} {v : VrI} (h : Gb x v) {id t : Int} (h0 : id ≠ 0) : Gb x (doneV id t v) := by
 rcases h with h | ⟨h1, h2, h3, h4, h5, h6⟩
 ·exact .inl h
 ·right
  have n1 : ¬ v.bY = id := by rw [h1]; exact fun c => h0 c.symm
  have n2 : ¬ v.ended = id := by rw [h2]; exact fun c => h0 c.symm
  unfold doneV
  simp only [if_neg n1, if_neg n2]
  exact ⟨h1, h2, h3, h4, h5, h6⟩
/-- The swept one x beside the other one y, n calls behind them. -/
structure Sim (n : Nat) (x y : MoI) : Prop where
 sl : x.slots = 256 ∧ y.slots = 256
 lm : y.limit = x.limit
 tm : y.time = x.time
 md : y.made = x.made
 ss : y.s = x.s
 ln : y.v.length ≤ n
 vs : ∃ L : List (VrI × Bool), fsts L = y.v ∧ kept L = x.v ∧ ∀ e ∈ L, e.2 = false → Gb x e.1
section
variable {n : Nat} {x y : MoI} {s : Nat} {o : OpI} {L : List (VrI × Bool)}
theorem sim_new : Sim 0 (new0 256 1000) (new0 256 1000) := ⟨⟨rfl, rfl⟩, rfl, rfl, rfl, rfl, Nat.le_refl _, [], rfl, rfl, fun e he => by cases he⟩
theorem Sim.more (h : Sim n x y) : Sim (n + 1) x y := ⟨h.sl, h.lm, h.tm, h.md, h.ss, by have := h.ln; omega, h.vs⟩
/-- What tells nothing of garbage. -/
theorem gb_bit {p : VrI → Bool} (hg : ∀ e ∈ L, e.2 = false → Gb x e.1) (hp : ∀ v, Gb x v → p v = false) : ∀ e ∈ L, p e.1 = true → e.2 = true := fun e he q => by
 cases c : e.2 with
 | true => rfl
 | false => rw [hp _ (hg e he c)] at q; cases q
theorem mine_gb {id key : Int} (h0 : id ≠ 0) (v : VrI) (h : Gb x v) : mineV id key v = false := by
  cases q : mineV id key v with
  | false => rfl
  | true =>
    obtain ⟨_, a, _, b⟩ := mine_iff.1 q
    rcases h with h | ⟨h1, _⟩
    · rw [h] at a; cases a
    · exact absurd (b.symm.trans h1) h0
theorem own_gb {id key : Int} (h0 : id ≠ 0) (v : VrI) (h : Gb x v) : ownV id key v = false := by
  cases q : ownV id key v with
  | false => rfl
  | true =>
    obtain ⟨_, b, a⟩ := own_iff.1 q
    rcases h with h | ⟨h1, _⟩
    · rw [h] at a; cases a
    · exact absurd (b.symm.trans h1) h0
theorem elder_gb {id key : Int} (hs : s < 8) (h0 : (x.s s).id ≠ 0) (v : VrI) (h : Gb x v) : elderV id key (x.s s).start v = false := by
  cases q : elderV id key (x.s s).start v with
  | false => rfl
  | true =>
    obtain ⟨_, a, _, _, _, b⟩ := elder_iff.1 q
    rcases h with h | ⟨h1, h2, h3, h4, h5, h6⟩
    · rw [h] at a; cases a
    · have := h6 s hs h0
      omega
theorem later_gb {key : Int} (hs : s < 8) (h0 : (x.s s).id ≠ 0) (v : VrI) (h : Gb x v) : laterV key (x.s s).start v = false := by
  cases q : laterV key (x.s s).start v with
  | false => rfl
  | true =>
    obtain ⟨_, a, b⟩ := later_iff.1 q
    rcases h with h | ⟨h1, h2, h3, h4, h5, h6⟩
    · rw [h] at a; cases a
    · have := h6 s hs h0
      omega
theorem there_gb {key t : Int} (v : VrI) (h : Gb x v) (ht : x.time ≤ t ∨ ∃ s, s < 8 ∧ (x.s s).id ≠ 0 ∧ t = (x.s s).start) : thereV key t v = false := by
  cases q : thereV key t v with
  | false => rfl
  | true =>
    obtain ⟨_, a, _, _, b⟩ := there_iff.1 q
    rcases h with h | ⟨h1, h2, h3, h4, h5, h6⟩
    · rw [h] at a; cases a
    · rcases ht with c | ⟨s, c1, c2, c3⟩
      · omega
      · have := h6 s c1 c2
        omega
/-- Sessions alone. -/
theorem Sim.sess (h : Sim n x y) (f : Nat → TxI) (hs : ∀ i, i < 8 → (f i).id ≠ 0 → (x.s i).id ≠ 0 ∧ (f i).start = (x.s i).start) : Sim n { x with s := f } { y with s := f } := by
 obtain ⟨L, h1, h2, h3⟩ := h.vs
 exact ⟨h.sl, h.lm, h.tm, h.md, rfl, h.ln, L, h1, h2, fun e he c => (h3 e he c).mono (Int.le_refl _) fun i hi hl => .inl (hs i hi hl)⟩
theorem put_live (f : Nat → TxI) (s : Nat) (t : TxI) (h1 : t.id = (f s).id) (h2 : t.start = (f s).start) (i : Nat) (hl : (putS f s t i).id ≠ 0) : (f i).id ≠ 0 ∧ (putS f s t i).start = (f i).start := by
 by_cases c : i = s
 ·subst c
  rw [putS_self] at hl ⊢
  rw [h1] at hl
  exact ⟨hl, h2⟩
 ·rw [putS_ne _ _ c] at hl ⊢
  exact ⟨hl, rfl⟩
theorem put_off (f : Nat → TxI) (s : Nat) (i : Nat) (hl : (putS f s tx0 i).id ≠ 0) : (f i).id ≠ 0 ∧ (putS f s tx0 i).start = (f i).start := by
 by_cases c : i = s
 ·subst c
  rw [putS_self] at hl
  exact absurd rfl hl
 ·rw [putS_ne _ _ c] at hl ⊢
  exact ⟨hl, rfl⟩
theorem sim_beg (h : Sim n x y) (k level : Int) : y.begE k level = x.begE k level ∧ y.begN k level = x.begN k level ∧ Sim n (x.beg k level) (y.beg k level) := by
 have e : y.begE k level = x.begE k level := by
  unfold MoI.begE
  rw [h.ss, h.md, h.lm, h.tm]
 refine ⟨e, by unfold MoI.begN; rw [e, h.md], ?_⟩
 unfold MoI.beg
 rw [e]
 split
 ·obtain ⟨L, h1, h2, h3⟩ := h.vs
  refine ⟨h.sl, h.lm, by show y.time + 1 = x.time + 1; rw [h.tm], by show y.made + 1 = x.made + 1; rw [h.md], by show putS y.s _ _ = putS x.s _ _; rw [h.ss, h.md, h.tm], h.ln, L, h1, h2, fun e he c => (h3 e he c).mono (by show x.time ≤ x.time + 1; omega) fun i hi hl => ?_⟩
  have hl : (putS x.s k.toNat _ i).id ≠ 0 := hl
  show _ ∨ x.time ≤ (putS x.s k.toNat _ i).start
  by_cases c : i = k.toNat
  ·right
   rw [c, putS_self]
   show x.time ≤ x.time + 1
   omega
  ·left
   rw [putS_ne _ _ c] at hl
   refine ⟨hl, ?_⟩
   show (putS x.s k.toNat _ i).start = _
   rw [putS_ne _ _ c]
 ·exact h
theorem sim_over (h : Sim n x y) (h0 : (x.s s).id ≠ 0) : Sim n (x.over s) (y.over s) := by
 obtain ⟨L, h1, h2, h3⟩ := h.vs
 refine ⟨h.sl, h.lm, h.tm, h.md, by show putS y.s s tx0 = putS x.s s tx0; rw [h.ss], by show (y.v.map _).length ≤ n; rw [List.length_map]; exact h.ln, L.map fun e => (goneV (x.s s).id e.1, e.2), ?_, ?_, fun e he c => ?_⟩
 ·rw [map_fsts, h1]
  show _ = y.v.map (goneV (y.s s).id)
  rw [h.ss]
 ·rw [map_kept, h2]
  rfl
 ·obtain ⟨a, ha, rfl⟩ := List.mem_map.1 he
  exact ((h3 a ha c).gone h0).mono (Int.le_refl _) fun i hi hl => .inl (put_off x.s s i hl)
theorem sim_count (h : Sim n x y) : Sim n (x.count s) (y.count s) := by
 have := h.sess (putS x.s s { x.s s with ops := (x.s s).ops + 1 }) fun i hi hl => put_live x.s s { x.s s with ops := (x.s s).ops + 1 } rfl rfl i hl
 unfold MoI.count
 rw [h.ss]
 exact this
theorem sim_keepR (h : Sim n x y) (r : RdI) : Sim n (x.keepR s r) (y.keepR s r) := by
 have := h.sess (putS x.s s { x.s s with reads := (x.s s).reads ++ [r] }) fun i hi hl => put_live x.s s { x.s s with reads := (x.s s).reads ++ [r] } rfl rfl i hl
 unfold MoI.keepR
 rw [h.ss]
 exact this
theorem sim_sees (hL : fsts L = y.v) (hk : kept L = x.v) (hg : ∀ e ∈ L, e.2 = false → Gb x e.1) (hs : s < 8) (h0 : (x.s s).id ≠ 0) (key : Int) :
  seesI x.v (x.s s).id (x.s s).start key = (seesI y.v (x.s s).id (x.s s).start key).map (rank L) ∧ ∀ i, seesI y.v (x.s s).id (x.s s).start key = some i → ∃ e, L[i]? = some e ∧ e.2 = true := by
 have b1 := gb_bit hg (mine_gb (key := key) h0)
 have b2 := gb_bit hg (elder_gb (id := (x.s s).id) (key := key) hs h0)
 have f1 := find_kept b1
 have f2 := find_kept b2
 rw [← hk, ← hL]
 unfold seesI
 rw [f1, f2]
 cases c : (fsts L).findIdx? (mineV (x.s s).id key) with
 | some i => exact ⟨rfl, fun j hj => by cases hj; exact find_bit b1 c⟩
 | none => exact ⟨rfl, fun j hj => find_bit b2 hj⟩
theorem sim_taken (h : Sim n x y) (hs : s < 8) (h0 : (x.s s).id ≠ 0) (key : Int) : x.taken (x.s s).id (x.s s).start key = y.taken (x.s s).id (x.s s).start key := by
 obtain ⟨L, h1, h2, h3⟩ := h.vs
 unfold MoI.taken
 rw [h.ss, ← h1, ← h2, kept_any (gb_bit h3 (later_gb hs h0))]
def stW (id : Int) (v : List VrI) (k : Option Nat) : Option Nat → List VrI
 | some i => if k = some i then v else setV v i fun y => { y with ended := id }
 | none => v
def wrW (id : Int) (v1 : List VrI) (o : OpI) : Option Nat → List VrI
 | some j => if o.kind = 4 then setV v1 j fun y => { y with ended := id } else setV v1 j fun y => { y with ended := 0, val := o.val }
 | none => if o.kind = 4 then v1 else v1 ++ [⟨o.key, o.val, id, 0, 0, 0, false⟩]
theorem wrW_none (id : Int) (v : List VrI) (o : OpI) : wrW id v o none = if o.kind = 4 then v else v ++ [⟨o.key, o.val, id, 0, 0, 0, false⟩] := rfl
theorem wrW_some (id : Int) (v : List VrI) (o : OpI) (j : Nat) : wrW id v o (some j) = if o.kind = 4 then setV v j fun y => { y with ended := id } else setV v j fun y => { y with ended := 0, val := o.val } := rfl
theorem wroteV_W (v : List VrI) (id : Int) (o : OpI) (at' k : Option Nat) : MoI.wroteV v id o at' k = wrW id (stW id v k at') o k := by
 cases at' <;> cases k <;> rfl
theorem bit_modify {g : VrI × Bool → VrI × Bool} (hg : ∀ e, (g e).2 = e.2) {i j : Nat} {e : VrI × Bool} (h : L[j]? = some e) (he : e.2 = true) : ∃ e', (L.modify i g)[j]? = some e' ∧ e'.2 = true := by
 rw [List.getElem?_modify, h]
 by_cases c : i = j
 ·exact ⟨g e, by simp [c], by rw [hg]; exact he⟩
 ·exact ⟨e, by simp [c], he⟩
theorem rank_modify {g : VrI × Bool → VrI × Bool} (hg : ∀ e, (g e).2 = e.2) (L : List (VrI × Bool)) (i j : Nat) : rank (L.modify i g) j = rank L j := by
  induction L generalizing i j with
  | nil => cases i <;> rfl
  | cons a L ih =>
    cases i with
    | zero =>
      cases j with
      | zero => rfl
      | succ j => show (if (g a).2 = true then _ else _) = _; rw [hg]; rfl
    | succ i =>
      cases j with
      | zero => rfl
      | succ j => show (if a.2 = true then rank (L.modify i g) j + 1 else rank (L.modify i g) j) = _; rw [ih]; rfl
theorem gb_modify {f : VrI → VrI} {i : Nat} {e0 : VrI × Bool} (hi : L[i]? = some e0) (h0 : e0.2 = true) (hg : ∀ e ∈ L, e.2 = false → Gb x e.1) : ∀ e ∈ L.modify i (fun e => (f e.1, e.2)), e.2 = false → Gb x e.1 := fun e he c => by
 obtain ⟨j, hj⟩ := List.mem_iff_getElem?.1 he
 rw [List.getElem?_modify] at hj
 by_cases q : i = j
 ·subst q
  rw [hi] at hj
  simp at hj
  rw [← hj] at c
  simp only at c
  rw [h0] at c; cases c
 ·cases hv : L[j]? with
  | none => rw [hv] at hj; cases hj
  | some a => rw [hv] at hj; simp [q] at hj; rw [← hj] at c ⊢; exact hg a (List.mem_of_getElem? hv) c
theorem sim_wroteV (hL : fsts L = y.v) (hk : kept L = x.v) (hg : ∀ e ∈ L, e.2 = false → Gb x e.1) (id : Int) (o : OpI) {a k : Option Nat} (ha : ∀ i, a = some i → ∃ e, L[i]? = some e ∧ e.2 = true) (hk' : ∀ i, k = some i → ∃ e, L[i]? = some e ∧ e.2 = true) :
    ∃ L', fsts L' = MoI.wroteV y.v id o a k ∧ kept L' = MoI.wroteV x.v id o (a.map (rank L)) (k.map (rank L)) ∧ ∀ e ∈ L', e.2 = false → Gb x e.1 := by
  rw [wroteV_W, wroteV_W, ← hL, ← hk]
  -- the first half
  obtain ⟨L1, q1, q2, q3, q4, q5⟩ : ∃ L1 : List (VrI × Bool), fsts L1 = stW id (fsts L) k a ∧ kept L1 = stW id (kept L) (k.map (rank L)) (a.map (rank L)) ∧ (∀ e ∈ L1, e.2 = false → Gb x e.1) ∧ (∀ j, rank L1 j = rank L j) ∧ ∀ (j : Nat) (e : VrI × Bool), L[j]? = some e → e.2 = true → ∃ e' : VrI × Bool, L1[j]? = some e' ∧ e'.2 = true := by
    cases a with
    | none => exact ⟨L, rfl, rfl, hg, fun _ => rfl, fun j e h1 h2 => ⟨e, h1, h2⟩⟩
    | some i =>
      obtain ⟨e, h1, h2⟩ := ha i rfl
      have cc := rank_opt (L := L) (a := k) (b := some i) hk' (fun j hj => by cases hj; exact ⟨e, h1, h2⟩)
      simp only [Option.map_some] at cc ⊢
      by_cases c : k = some i
      · refine ⟨L, ?_, ?_, hg, fun _ => rfl, fun j e h1 h2 => ⟨e, h1, h2⟩⟩
        · exact (if_pos c).symm
        · exact (if_pos (cc.2 c)).symm
      · refine ⟨L.modify i fun e => ({ e.1 with ended := id }, e.2), ?_, ?_, gb_modify (f := fun y => { y with ended := id }) h1 h2 hg, rank_modify (g := fun e => ({ e.1 with ended := id }, e.2)) (fun _ => rfl) L i, fun j e' h3 h4 => bit_modify (g := fun e => ({ e.1 with ended := id }, e.2)) (fun _ => rfl) h3 h4⟩
        · rw [modify_fsts (fun y => { y with ended := id })]
          exact (if_neg c).symm
        · rw [modify_kept (fun y => { y with ended := id }) h1 h2]
          exact (if_neg (fun q => c (cc.1 q))).symm
  rw [← q1, ← q2]
  cases k with
  | none =>
    show ∃ L', fsts L' = (if o.kind = 4 then fsts L1 else fsts L1 ++ _) ∧ kept L' = (if o.kind = 4 then kept L1 else kept L1 ++ _) ∧ _
    by_cases c : o.kind = 4
    · rw [if_pos c, if_pos c]
      exact ⟨L1, rfl, rfl, q3⟩
    · rw [if_neg c, if_neg c]
      refine ⟨L1 ++ [(⟨o.key, o.val, id, 0, 0, 0, false⟩, true)], by unfold fsts; rw [List.map_append]; rfl, by rw [kept_append]; rfl, fun e he cc => ?_⟩
      rcases List.mem_append.1 he with q | q
      · exact q3 e q cc
      · rw [List.mem_singleton] at q; subst q; cases cc
  | some j =>
    obtain ⟨e, h1, h2⟩ := hk' j rfl
    obtain ⟨e1, h3, h4⟩ := q5 j e h1 h2
    show ∃ L', fsts L' = (if o.kind = 4 then setV (fsts L1) j _ else setV (fsts L1) j _) ∧ kept L' = (if o.kind = 4 then setV (kept L1) (rank L j) _ else setV (kept L1) (rank L j) _) ∧ _
    rw [← q4 j]
    by_cases c : o.kind = 4
    · rw [if_pos c, if_pos c]
      exact ⟨L1.modify j fun e => ({ e.1 with ended := id }, e.2), modify_fsts (fun y => { y with ended := id }) _ _, modify_kept (fun y => { y with ended := id }) h3 h4, gb_modify (f := fun y => { y with ended := id }) h3 h4 q3⟩
    · rw [if_neg c, if_neg c]
      exact ⟨L1.modify j fun e => ({ e.1 with ended := 0, val := o.val }, e.2), modify_fsts (fun y => { y with ended := 0, val := o.val }) _ _, modify_kept (fun y => { y with ended := 0, val := o.val }) h3 h4, gb_modify (f := fun y => { y with ended := 0, val := o.val }) h3 h4 q3⟩
theorem wroteV_len (v : List VrI) (id : Int) (o : OpI) (a k : Option Nat) : (MoI.wroteV v id o a k).length ≤ v.length + 1 := by
  rw [wroteV_W]
  have h1 : (stW id v k a).length = v.length := by
    cases a with
    | none => rfl
    | some i => show (if k = some i then v else setV v i _).length = _; split; rfl; exact List.length_modify _ _ _
  cases k with
  | none =>
    rw [wrW_none]
    split
    · omega
    · rw [List.length_append, List.length_singleton]; omega
  | some j =>
    rw [wrW_some]
    split
    · show ((stW id v (some j) a).modify j _).length ≤ _
      rw [List.length_modify]; omega
    · show ((stW id v (some j) a).modify j _).length ≤ _
      rw [List.length_modify]; omega
theorem sim_write (h : Sim n x y) (hn : n < 256) (hs : s < 8) (h0 : (x.s s).id ≠ 0) : (y.write s o).1 = (x.write s o).1 ∧ Sim (n + 1) (x.write s o).2 (y.write s o).2 := by
 obtain ⟨L, h1, h2, h3⟩ := h.vs
 obtain ⟨a1, a2⟩ := sim_sees h1 h2 h3 hs h0 o.key
 have b1 := gb_bit h3 (own_gb (key := o.key) h0)
 have b2 : x.v.findIdx? (ownV (x.s s).id o.key) = (y.v.findIdx? (ownV (x.s s).id o.key)).map (rank L) := by rw [← h2, ← h1]; exact find_kept b1
 have b3 : ∀ i, y.v.findIdx? (ownV (x.s s).id o.key) = some i → ∃ e, L[i]? = some e ∧ e.2 = true := fun i hi => by rw [← h1] at hi; exact find_bit b1 hi
 have tk := sim_taken h hs h0 o.key
 have hlen : x.v.length ≤ y.v.length := by rw [← h2, ← h1]; exact kept_len L
 have ln := h.ln
 have sn : seesI x.v (x.s s).id (x.s s).start o.key = none ↔ seesI y.v (x.s s).id (x.s s).start o.key = none := by rw [a1]; cases seesI y.v (x.s s).id (x.s s).start o.key <;> simp
 have ss : y.s s = x.s s := by rw [h.ss]
 by_cases hno : (o.kind = 2 ∧ seesI y.v (x.s s).id (x.s s).start o.key ≠ none) ∨ (o.kind ≠ 2 ∧ seesI y.v (x.s s).id (x.s s).start o.key = none)
 ·have hx : (o.kind = 2 ∧ seesI x.v (x.s s).id (x.s s).start o.key ≠ none) ∨ (o.kind ≠ 2 ∧ seesI x.v (x.s s).id (x.s s).start o.key = none) := by
   rcases hno with ⟨p, q⟩ | ⟨p, q⟩
   ·exact .inl ⟨p, fun c => q (sn.1 c)⟩
   ·exact .inr ⟨p, sn.2 q⟩
  rw [wr_no s o hx, wr_no (m := y) s o (by rw [ss]; exact hno), ss]
  refine ⟨?_, ?_⟩
  ·by_cases c : seesI y.v (x.s s).id (x.s s).start o.key = none
   ·simp only [c, sn.2 c]
   ·simp only [if_neg c, if_neg (fun q => c (sn.1 q))]
  ·simp only
   split
   ·exact h.more
   ·exact (sim_keepR h _).more
 ·have hx : ¬ ((o.kind = 2 ∧ seesI x.v (x.s s).id (x.s s).start o.key ≠ none) ∨ (o.kind ≠ 2 ∧ seesI x.v (x.s s).id (x.s s).start o.key = none)) := by
   rintro (⟨p, q⟩ | ⟨p, q⟩)
   ·exact hno (.inl ⟨p, fun c => q (sn.2 c)⟩)
   ·exact hno (.inr ⟨p, sn.1 q⟩)
  by_cases hcon : o.key ∉ (x.s s).wrote ∧ x.taken (x.s s).id (x.s s).start o.key = true
  ·rw [wr_con s o hx hcon.1 hcon.2, wr_con (m := y) s o (by rw [ss]; exact hno) (by rw [ss]; exact hcon.1) (by rw [ss, ← tk]; exact hcon.2)]
   exact ⟨rfl, (sim_over h h0).more⟩
  ·have ht : o.key ∈ (x.s s).wrote ∨ x.taken (x.s s).id (x.s s).start o.key = false := by
    by_cases q : o.key ∈ (x.s s).wrote
    ·exact .inl q
    ·right
     cases c : x.taken (x.s s).id (x.s s).start o.key with
     | false => rfl
     | true => exact absurd ⟨q, c⟩ hcon
   rw [wr_ok s o hx ht (fun c => by have c := c.2.2; rw [h.sl.1] at c; omega), wr_ok (m := y) s o (by rw [ss]; exact hno) (by rw [ss, ← tk]; exact ht) (fun c => by have c := c.2.2; rw [h.sl.2] at c; omega), ss]
   refine ⟨rfl, ?_⟩
   obtain ⟨L', w1, w2, w3⟩ := sim_wroteV h1 h2 h3 (x.s s).id o (a := seesI y.v (x.s s).id (x.s s).start o.key) (k := y.v.findIdx? (ownV (x.s s).id o.key)) a2 b3
   rw [a1, b2]
   have wl := wroteV_len y.v (x.s s).id o (seesI y.v (x.s s).id (x.s s).start o.key) (y.v.findIdx? (ownV (x.s s).id o.key))
   have key : ∀ f : Nat → TxI, (∀ i, i < 8 → (f i).id ≠ 0 → (x.s i).id ≠ 0 ∧ (f i).start = (x.s i).start) → Sim (n + 1) { x with s := f, v := MoI.wroteV x.v (x.s s).id o ((seesI y.v (x.s s).id (x.s s).start o.key).map (rank L)) ((y.v.findIdx? (ownV (x.s s).id o.key)).map (rank L)) } { y with s := f, v := MoI.wroteV y.v (x.s s).id o (seesI y.v (x.s s).id (x.s s).start o.key) (y.v.findIdx? (ownV (x.s s).id o.key)) } := fun f hf =>
    ⟨h.sl, h.lm, h.tm, h.md, rfl, by show (MoI.wroteV y.v _ o _ _).length ≤ n + 1; omega, L', w1, w2, fun e he c => (w3 e he c).mono (Int.le_refl _) fun i hi hl => .inl (hf i hi hl)⟩
   by_cases hm : o.key ∈ (x.s s).wrote
   ·rw [if_pos hm, if_pos hm]
    have := key x.s (fun i hi hl => ⟨hl, rfl⟩)
    rw [← h.ss] at this
    have e1 : ({ x with s := y.s, v := MoI.wroteV x.v (x.s s).id o ((seesI y.v (x.s s).id (x.s s).start o.key).map (rank L)) ((y.v.findIdx? (ownV (x.s s).id o.key)).map (rank L)) } : MoI) = { x with v := MoI.wroteV x.v (x.s s).id o ((seesI y.v (x.s s).id (x.s s).start o.key).map (rank L)) ((y.v.findIdx? (ownV (x.s s).id o.key)).map (rank L)) } := by rw [h.ss]
    have := key x.s (fun i hi hl => ⟨hl, rfl⟩)
    have e2 : ({ y with s := x.s, v := MoI.wroteV y.v (x.s s).id o (seesI y.v (x.s s).id (x.s s).start o.key) (y.v.findIdx? (ownV (x.s s).id o.key)) } : MoI) = { y with v := MoI.wroteV y.v (x.s s).id o (seesI y.v (x.s s).id (x.s s).start o.key) (y.v.findIdx? (ownV (x.s s).id o.key)) } := by rw [← h.ss]
    rw [e2] at this
    exact this
   ·rw [if_neg hm, if_neg hm]
    have := key (putS x.s s { x.s s with wrote := (x.s s).wrote ++ [o.key] }) (fun i hi hl => put_live x.s s { x.s s with wrote := (x.s s).wrote ++ [o.key] } rfl rfl i hl)
    have e2 : ({ y.keepW s o.key with v := MoI.wroteV y.v (x.s s).id o (seesI y.v (x.s s).id (x.s s).start o.key) (y.v.findIdx? (ownV (x.s s).id o.key)) } : MoI) = { y with s := putS x.s s { x.s s with wrote := (x.s s).wrote ++ [o.key] }, v := MoI.wroteV y.v (x.s s).id o (seesI y.v (x.s s).id (x.s s).start o.key) (y.v.findIdx? (ownV (x.s s).id o.key)) } := by
     unfold MoI.keepW
     rw [h.ss]
    rw [e2]
    exact this
theorem sim_tick (h : Sim n x y) : Sim n { x with time := x.time + 1 } { y with time := y.time + 1 } := by
 obtain ⟨L, h1, h2, h3⟩ := h.vs
 exact ⟨h.sl, h.lm, by show y.time + 1 = x.time + 1; rw [h.tm], h.md, h.ss, h.ln, L, h1, h2, fun e he c => (h3 e he c).mono (by show x.time ≤ x.time + 1; omega) fun i hi hl => .inl ⟨hl, rfl⟩⟩
theorem sim_holds (h : Sim n x y) (hs : s < 8) (h0 : (x.s s).id ≠ 0) : ({ y with time := y.time + 1 } : MoI).holds (x.s s) = ({ x with time := x.time + 1 } : MoI).holds (x.s s) := by
 obtain ⟨L, h1, h2, h3⟩ := h.vs
 unfold MoI.holds
 congr 1
 funext r
 congr 2
 funext key
 have b1 := gb_bit h3 (fun v hv => there_gb (key := key) (t := (x.s s).start) v hv (.inr ⟨s, hs, h0, rfl⟩))
 have b2 := gb_bit h3 (fun v hv => there_gb (key := key) (t := x.time + 1) v hv (.inl (by omega)))
 have f1 := find_kept b1
 have f2 := find_kept b2
 rw [h1, h2] at f1 f2
 show decide (y.v.findIdx? (thereV key (x.s s).start) = y.v.findIdx? (thereV key (y.time + 1))) = decide (x.v.findIdx? (thereV key (x.s s).start) = x.v.findIdx? (thereV key (x.time + 1)))
 rw [h.tm, f1, f2]
 refine decide_eq_decide.2 (rank_opt (L := L) (fun i hi => ?_) (fun i hi => ?_)).symm
 ·rw [← h1] at hi; exact find_bit b1 hi
 ·rw [← h1] at hi; exact find_bit b2 hi
theorem sim_commit (h : Sim n x y) (hs : s < 8) (h0 : (x.s s).id ≠ 0) : (y.commit s).1 = (x.commit s).1 ∧ Sim n (x.commit s).2 (y.commit s).2 := by
 have ss : y.s s = x.s s := by rw [h.ss]
 unfold MoI.commit
 rw [h.lm, h.tm]
 by_cases c : x.limit ≤ x.time
 ·rw [if_pos c, if_pos c]
  exact ⟨rfl, sim_over h h0⟩
 ·rw [if_neg c, if_neg c]
  simp only
  have hh := sim_holds h hs h0
  rw [h.lm, h.tm] at hh
  rw [ss, hh]
  by_cases d : (x.s s).level ≠ 1 ∧ ({ x with time := x.time + 1 } : MoI).holds (x.s s) = false
  ·rw [if_pos d, if_pos d]
   refine ⟨rfl, ?_⟩
   have := sim_over (s := s) (sim_tick h) h0
   rw [h.lm, h.tm] at this
   exact this
  ·rw [if_neg d, if_neg d]
   refine ⟨rfl, ?_⟩
   obtain ⟨L, h1, h2, h3⟩ := h.vs
   refine ⟨h.sl, rfl, rfl, h.md, by show putS y.s s tx0 = putS x.s s tx0; rw [h.ss], by show (y.v.map _).length ≤ n; rw [List.length_map]; exact h.ln, L.map fun e => (doneV (x.s s).id (x.time + 1) e.1, e.2), ?_, ?_, fun e he cc => ?_⟩
   ·rw [map_fsts, h1]
   ·rw [map_kept, h2]
   ·obtain ⟨a, ha, rfl⟩ := List.mem_map.1 he
    exact ((h3 a ha cc).done h0).mono (by show x.time ≤ x.time + 1; omega) fun i hi hl => .inl (put_off x.s s i hl)
theorem count_id (x : MoI) (s : Nat) : ((x.count s).s s).id = (x.s s).id := by rw [count_at]
theorem sim_get (h : Sim n x y) (hs : s < 8) (h0 : (x.s s).id ≠ 0) : (y.get s o).1 = (x.get s o).1 ∧ Sim n (x.get s o).2 (y.get s o).2 := by
  obtain ⟨L, h1, h2, h3⟩ := h.vs
  obtain ⟨a1, a2⟩ := sim_sees h1 h2 h3 hs h0 o.key
  have ss : y.s s = x.s s := by rw [h.ss]
  unfold MoI.get
  simp only
  rw [ss, a1]
  cases c : seesI y.v (x.s s).id (x.s s).start o.key with
  | none =>
    refine ⟨rfl, ?_⟩
    simp only [Option.map_none]
    split
    · exact h
    · exact sim_keepR h _
  | some i =>
    obtain ⟨e, h4, h5⟩ := a2 i c
    have g1 := get_kept h4 h5
    rw [h2] at g1
    have g2 : y.v[i]? = some e.1 := by
      rw [← h1]
      unfold fsts
      rw [List.getElem?_map, h4]
      rfl
    refine ⟨?_, ?_⟩
    · show (⟨0, valI y.v i, [], 0, 0⟩ : ReI) = ⟨0, valI x.v (rank L i), [], 0, 0⟩
      unfold valI
      rw [g1, g2]
    · simp only [Option.map_some]
      split
      · exact h
      · have : decide (some (rank L i) ≠ none) = decide (some i ≠ none) := by simp
        rw [this]
        exact sim_keepR h _
theorem sim_scan (h : Sim n x y) (hs : s < 8) (h0 : (x.s s).id ≠ 0) : (y.scan s o).1 = (x.scan s o).1 ∧ Sim n (x.scan s o).2 (y.scan s o).2 := by
  obtain ⟨L, h1, h2, h3⟩ := h.vs
  have ss : y.s s = x.s s := by rw [h.ss]
  refine ⟨?_, sim_keepR h _⟩
  show (⟨0, 0, scanI y.v (y.s s).id (y.s s).start o.key o.hi, 0, 0⟩ : ReI) = ⟨0, 0, scanI x.v (x.s s).id (x.s s).start o.key o.hi, 0, 0⟩
  rw [ss]
  unfold scanI
  congr 2
  funext key
  obtain ⟨a1, a2⟩ := sim_sees h1 h2 h3 hs h0 key
  unfold pairI
  rw [a1]
  cases c : seesI y.v (x.s s).id (x.s s).start key with
  | none => rfl
  | some i =>
    obtain ⟨e, h4, h5⟩ := a2 i c
    have g1 := get_kept h4 h5
    rw [h2] at g1
    have g2 : y.v[i]? = some e.1 := by
      rw [← h1]
      unfold fsts
      rw [List.getElem?_map, h4]
      rfl
    show [(key, valI y.v i)] = [(key, valI x.v (rank L i))]
    unfold valI
    rw [g1, g2]
theorem sim_do (h : Sim n x y) (hn : n < 256) (k : Int) (o : OpI) : y.doE k o = x.doE k o ∧ y.doR k o = x.doR k o ∧ Sim (n + 1) (x.doM k o) (y.doM k o) := by
 have e : y.doE k o = x.doE k o := by unfold MoI.doE; rw [h.ss]
 refine ⟨e, ?_⟩
 unfold MoI.doR MoI.doM
 rw [e]
 by_cases hz : x.doE k o = 0
 ·rw [if_pos hz, if_pos hz, if_pos hz, if_pos hz]
  obtain ⟨s0, s7, h0, hok, hop⟩ := doE_zero hz
  obtain ⟨s, hs⟩ : ∃ s, k.toNat = s := ⟨_, rfl⟩
  rw [hs] at h0 hop ⊢
  have s8 : s < 8 := by omega
  have hc0 : ((x.count s).s s).id ≠ 0 := by rw [count_id]; exact h0
  unfold MoI.run
  by_cases k7 : o.kind = 7
  ·rw [if_pos k7, if_pos k7]
   exact ⟨rfl, (sim_over h h0).more⟩
  ·rw [if_neg k7, if_neg k7]
   by_cases k6 : o.kind = 6
   ·rw [if_pos k6, if_pos k6]
    obtain ⟨c1, c2⟩ := sim_commit h s8 h0
    exact ⟨c1, c2.more⟩
   ·rw [if_neg k6, if_neg k6]
    by_cases k1 : o.kind = 1
    ·rw [if_pos k1, if_pos k1]
     obtain ⟨c1, c2⟩ := sim_get (o := o) (sim_count (s := s) h) s8 hc0
     exact ⟨c1, c2.more⟩
    ·rw [if_neg k1, if_neg k1]
     by_cases k5 : o.kind = 5
     ·rw [if_pos k5, if_pos k5]
      obtain ⟨c1, c2⟩ := sim_scan (o := o) (sim_count (s := s) h) s8 hc0
      exact ⟨c1, c2.more⟩
     ·rw [if_neg k5, if_neg k5]
      exact sim_write (sim_count (s := s) h) hn s8 hc0
 ·rw [if_neg hz, if_neg hz, if_neg hz, if_neg hz]
  exact ⟨rfl, h.more⟩
/-- The lowest begin is low. -/
theorem fold_low (f : Nat → TxI) (l : List Nat) (a : Int) : l.foldl (fun a i => if (f i).id ≠ 0 then min a (f i).start else a) a ≤ a ∧ ∀ i ∈ l, (f i).id ≠ 0 → l.foldl (fun a i => if (f i).id ≠ 0 then min a (f i).start else a) a ≤ (f i).start := by
  induction l generalizing a with
  | nil => exact ⟨Int.le_refl _, fun i hi => by cases hi⟩
  | cons j l ih =>
    obtain ⟨p, q⟩ := ih (if (f j).id ≠ 0 then min a (f j).start else a)
    rw [List.foldl_cons]
    refine ⟨Int.le_trans p ?_, fun i hi hl => ?_⟩
    · split
      · omega
      · omega
    · rcases List.mem_cons.1 hi with c | c
      · subst c
        refine Int.le_trans p ?_
        rw [if_pos hl]
        omega
      · exact q i c hl
theorem low_le (x : MoI) : x.low ≤ x.time ∧ ∀ i, i < 8 → (x.s i).id ≠ 0 → x.low ≤ (x.s i).start := by
 obtain ⟨p, q⟩ := fold_low x.s (List.range 8) x.time
 exact ⟨p, fun i hi => q i (List.mem_range.2 hi)⟩
theorem kept_and (q : VrI → Bool) (L : List (VrI × Bool)) : kept (L.map fun e => (e.1, e.2 && q e.1)) = (kept L).filter q ∧ fsts (L.map fun e => (e.1, e.2 && q e.1)) = fsts L := by
  constructor
  · induction L with
    | nil => rfl
    | cons a L ih =>
      show kept ((a.1, a.2 && q a.1) :: L.map _) = _
      rw [kept_cons, kept_cons, ih]
      by_cases hb : a.2 = true
      · rw [if_pos hb, List.filter_cons]
        simp only [hb, Bool.true_and]
      · rw [if_neg hb]
        simp at hb
        simp [hb]
  · unfold fsts
    rw [List.map_map]
    rfl
theorem sim_collect (h : Sim n x y) (g : Good x) : Sim n x.collect y := by
  obtain ⟨L, h1, h2, h3⟩ := h.vs
  obtain ⟨k1, k2⟩ := kept_and (MoI.keepV x.low) L
  refine ⟨h.sl, h.lm, h.tm, h.md, h.ss, h.ln, _, k2.trans h1, by rw [k1, h2]; rfl, fun e he c => ?_⟩
  obtain ⟨a, ha, rfl⟩ := List.mem_map.1 he
  show Gb x a.1
  cases hb : a.2 with
  | false => exact h3 a ha hb
  | true =>
    have c : (a.2 && MoI.keepV x.low a.1) = false := c
    rw [hb, Bool.true_and] at c
    have hm : a.1 ∈ x.v := by rw [← h2]; unfold kept; exact List.mem_map.2 ⟨a, List.mem_filter.2 ⟨ha, hb⟩, rfl⟩
    have o := g.ver _ hm
    obtain ⟨l1, l2⟩ := low_le x
    unfold MoI.keepV at c
    cases hd : a.1.dead with
    | true => exact .inl hd
    | false =>
      rw [hd] at c
      simp at c
      obtain ⟨c1, c2⟩ := c
      have b0 : a.1.bY = 0 := Decidable.byContradiction fun q => c1 (o.by' q).1
      have e0 : a.1.ended = 0 := Decidable.byContradiction fun q => c1 (o.en q).2.1
      refine .inr ⟨b0, e0, c1, ?_, by omega, fun i hi hl => by have := l2 i hi hl; omega⟩
      rcases (o.tm b0).2.2 with q | q
      · exact absurd q c1
      · exact q.1
theorem sim_pairs (h : Sim n x y) : y.pairs y.time = x.pairs x.time := by
 obtain ⟨L, h1, h2, h3⟩ := h.vs
 unfold MoI.pairs
 rw [h.tm]
 congr 1
 funext key
 unfold MoI.pairsOf
 rw [← h1, ← h2, kept_filter (gb_bit h3 fun v hv => there_gb (key := key) (t := x.time) v hv (.inl (Int.le_refl _)))]
theorem over_pairs (h0 : (x.s s).id ≠ 0) (t : Int) : (x.over s).pairs t = x.pairs t := by
  unfold MoI.pairs
  congr 1
  funext key
  unfold MoI.pairsOf
  show ((x.v.map (goneV (x.s s).id)).filter (thereV key t)).map _ = _
  have : ∀ v : List VrI, ((v.map (goneV (x.s s).id)).filter (thereV key t)).map (fun z => (key, z.val)) = (v.filter (thereV key t)).map fun z => (key, z.val) := fun v => by
    induction v with
    | nil => rfl
    | cons a v ih =>
      have e : thereV key t (goneV (x.s s).id a) = thereV key t a := by
        rw [Bool.eq_iff_iff, there_iff, there_iff]
        show a.key = key ∧ (if a.bY = (x.s s).id then true else a.dead) = false ∧ a.bY = 0 ∧ _ ↔ _
        by_cases c : a.bY = (x.s s).id
        · rw [if_pos c]
          constructor
          · rintro ⟨_, q, _⟩; cases q
          · rintro ⟨_, _, q, _⟩; exact absurd (c.symm.trans q) h0
        · rw [if_neg c]
          exact Iff.rfl
      rw [List.map_cons, List.filter_cons, List.filter_cons, e]
      split
      · rw [List.map_cons, List.map_cons, ih]; rfl
      · exact ih
  exact this x.v
/-- While all are asked to abort, one behind the other. -/
structure Off (T : Int) (P : List (Int × Int)) (k : Nat) (x : MoI) : Prop where
 s : ∀ i, i < k → (x.s i).id = 0
 t : x.time = T
 p : x.pairs T = P
theorem off_step {T : Int} {P : List (Int × Int)} {k : Nat} (h : Off T P k x) (hk : k < 8) : ∃ e0 ve vv ps vo vr z, x.doE k ⟨7, 0, 0, 0⟩ = e0 ∧ x.doR k ⟨7, 0, 0, 0⟩ = ⟨ve, vv, ps, vo, vr⟩ ∧ x.doM k ⟨7, 0, 0, 0⟩ = z ∧ Off T P (k + 1) z := by
 refine ⟨_, _, _, _, _, _, _, rfl, rfl, rfl, ?_⟩
 by_cases c : (x.s k).id = 0
 ·have e : x.doE k ⟨7, 0, 0, 0⟩ = 9 := by unfold MoI.doE; rw [if_neg (by omega)]; exact if_pos (.inl c)
  unfold MoI.doM
  rw [e, if_neg (by decide)]
  refine ⟨fun i hi => ?_, h.t, h.p⟩
  by_cases q : i = k
  ·rw [q]; exact c
  ·exact h.s i (by omega)
 ·have e : x.doE k ⟨7, 0, 0, 0⟩ = 0 := doE_live hk c rfl (.inl rfl)
  unfold MoI.doM
  rw [if_pos e]
  show Off T P (k + 1) (x.over k)
  refine ⟨fun i hi => ?_, h.t, (over_pairs c T).trans h.p⟩
  show (putS x.s k tx0 i).id = 0
  by_cases q : i = k
  ·rw [q, putS_self]; rfl
  ·rw [putS_ne _ _ q]; exact h.s i (by omega)
/-- The keys from lo on: each version is told once. -/
theorem len_keys (v : List VrI) (t : Int) (n : Nat) (lo : Int) : ((keysI lo n).flatMap (MoI.pairsOf v t)).length = (v.filter fun y => decide (lo ≤ y.key ∧ y.key < lo + n) && thereV y.key t y).length := by
  induction n generalizing lo with
  | zero =>
    have : (v.filter fun y => decide (lo ≤ y.key ∧ y.key < lo + ((0 : Nat) : Int)) && thereV y.key t y) = [] := List.filter_eq_nil_iff.2 fun y _ c => by
      rw [Bool.and_eq_true, decide_eq_true_iff] at c
      omega
    rw [this]
    rfl
  | succ n ih =>
    show ((lo :: keysI (lo + 1) n).flatMap _).length = _
    rw [List.flatMap_cons, List.length_append, ih]
    have : ∀ v : List VrI, (MoI.pairsOf v t lo).length + (v.filter fun y => decide (lo + 1 ≤ y.key ∧ y.key < lo + 1 + n) && thereV y.key t y).length = (v.filter fun y => decide (lo ≤ y.key ∧ y.key < lo + ((n + 1 : Nat) : Int)) && thereV y.key t y).length := fun v => by
      unfold MoI.pairsOf
      rw [List.length_map]
      induction v with
      | nil => rfl
      | cons a v ih =>
        rw [List.filter_cons, List.filter_cons, List.filter_cons]
        by_cases c : a.key = lo
        · have e1 : (decide (lo + 1 ≤ a.key ∧ a.key < lo + 1 + n) && thereV a.key t a) = false := by rw [decide_eq_false (by omega)]; rfl
          have e2 : (decide (lo ≤ a.key ∧ a.key < lo + ((n + 1 : Nat) : Int)) && thereV a.key t a) = thereV lo t a := by rw [decide_eq_true (by omega), c]; rfl
          rw [e1, e2]
          cases thereV lo t a
          · simpa using ih
          · simp only [if_true, List.length_cons, Bool.false_eq_true, if_false]; omega
        · have e0 : thereV lo t a = false := by
            cases q : thereV lo t a with
            | false => rfl
            | true => exact absurd (there_iff.1 q).1 c
          have e1 : decide (lo + 1 ≤ a.key ∧ a.key < lo + 1 + n) = decide (lo ≤ a.key ∧ a.key < lo + ((n + 1 : Nat) : Int)) := decide_eq_decide.2 (by omega)
          rw [e0, e1]
          cases (decide (lo ≤ a.key ∧ a.key < lo + ((n + 1 : Nat) : Int)) && thereV a.key t a)
          · simpa using ih
          · simp only [if_true, List.length_cons, Bool.false_eq_true, if_false]; omega
    exact this v
theorem off_end {T : Int} {P : List (Int × Int)} (h : Off T P 8 x) (g : Good x) : x.collect.time = T ∧ x.collect.pairs T = P ∧ (x.collect.v.length : Int) = P.length ∧ x.collect.collected = 0 := by
  have no : ∀ id key, id ≠ 0 → ¬ Wr x.s id key := fun id key h0 ⟨i, hi, e, _⟩ => h0 (e.symm.trans (h.s i hi))
  obtain ⟨l1, l2⟩ := low_le x
  have ht := h.t
  have hp : x.collect.pairs T = P := by
    rw [← h.p]
    unfold MoI.pairs
    congr 1
    funext key
    unfold MoI.pairsOf
    show ((x.v.filter (MoI.keepV x.low)).filter (thereV key T)).map _ = _
    rw [List.filter_filter]
    congr 1
    refine List.filter_congr fun v _ => ?_
    cases q : thereV key T v with
    | false => rfl
    | true =>
      obtain ⟨_, a, _, _, b⟩ := there_iff.1 q
      rw [Bool.true_and]
      unfold MoI.keepV
      rw [a, decide_eq_false (by omega)]
      rfl
  have all : ∀ v ∈ x.collect.v, v.dead = false ∧ v.bY = 0 ∧ v.stop = 0 ∧ v.start ≤ T ∧ 0 ≤ v.key ∧ v.key ≤ 63 := fun v hv => by
    obtain ⟨m, k⟩ := List.mem_filter.1 (show v ∈ x.v.filter (MoI.keepV x.low) from hv)
    have o := g.ver v m
    unfold MoI.keepV at k
    cases hd : v.dead with
    | true => rw [hd] at k; cases k
    | false =>
      rw [hd] at k
      have b0 : v.bY = 0 := Decidable.byContradiction fun q => no _ _ q ((o.by' q).2.2 hd)
      have tm := o.tm b0
      have live : x.low = x.time := by
        have e : ∀ l : List Nat, (∀ i ∈ l, (x.s i).id = 0) → ∀ a : Int, l.foldl (fun a i => if (x.s i).id ≠ 0 then min a (x.s i).start else a) a = a := fun l => by
          induction l with
          | nil => exact fun _ _ => rfl
          | cons j l ih =>
            intro hl a
            rw [List.foldl_cons, if_neg (fun c => c (hl j (List.mem_cons_self ..)))]
            exact ih (fun i hi => hl i (List.mem_cons_of_mem _ hi)) a
        exact e _ (fun i hi => h.s i (List.mem_range.1 hi)) _
      refine ⟨rfl, b0, ?_, by omega, o.ky.1, o.ky.2⟩
      simp at k
      omega
  have hl : (x.collect.pairs T).length = x.collect.v.length := by
    unfold MoI.pairs
    rw [len_keys]
    congr 1
    refine List.filter_eq_self.2 fun v hv => ?_
    obtain ⟨a, b, c, d, e, f⟩ := all v hv
    rw [Bool.and_eq_true, decide_eq_true_iff]
    exact ⟨by omega, there_iff.2 ⟨rfl, a, b, d, .inl c⟩⟩
  refine ⟨ht, hp, by rw [← hp, hl], ?_⟩
  have : x.collect.v.filter (MoI.keepV x.collect.low) = x.collect.v := List.filter_eq_self.2 fun v hv => by
    obtain ⟨a, b, c, d, e, f⟩ := all v hv
    unfold MoI.keepV
    rw [a, decide_eq_false (by omega)]
    rfl
  unfold MoI.collected
  rw [this]
  omega
theorem ps_write (m : MoI) (s : Nat) (o : OpI) : (m.write s o).1.pairs = [] := by
 unfold MoI.write
 simp only
 split
 ·rfl
 ·split
  ·rfl
  ·split <;> rfl
theorem ps_commit (m : MoI) (s : Nat) : (m.commit s).1.pairs = [] := by
 unfold MoI.commit
 split
 ·rfl
 ·simp only
  split <;> rfl
theorem ps_get (m : MoI) (s : Nat) (o : OpI) : (m.get s o).1.pairs = [] := by
 unfold MoI.get
 simp only
 split <;> rfl
theorem ps_flat {α β : Type} (f : α → List β) (hf : ∀ a, (f a).length ≤ 1) (l : List α) : (l.flatMap f).length ≤ l.length := by
 induction l with
 | nil => exact Nat.le_refl _
 | cons a l ih => rw [List.flatMap_cons, List.length_append, List.length_cons]; have := hf a; omega
theorem ps_keys (lo : Int) (n : Nat) : (keysI lo n).length = n := by
 induction n generalizing lo with
 | zero => rfl
 | succ n ih => show (lo :: keysI (lo + 1) n).length = _; rw [List.length_cons, ih]
theorem ps_do (x : MoI) (s : Int) (o : OpI) : (x.doR s o).pairs.length ≤ 64 := by
 unfold MoI.doR
 by_cases he : x.doE s o = 0
 ·rw [if_pos he]
  obtain ⟨_, _, _, hok, _⟩ := doE_zero he
  unfold MoI.run
  split
  ·exact Nat.zero_le _
  ·split
   ·rw [ps_commit]; exact Nat.zero_le _
   ·split
    ·rw [ps_get]; exact Nat.zero_le _
    ·split
     ·next k5 =>
      obtain ⟨_, h0, h1, h2, _⟩ := okI_key hok (by omega)
      have := h2 k5
      show (scanI _ _ _ o.key o.hi).length ≤ 64
      unfold scanI
      refine Nat.le_trans (ps_flat _ (fun k => ?_) _) (by rw [ps_keys]; omega)
      unfold pairI
      split
      ·exact Nat.le_refl _
      ·exact Nat.zero_le _
     ·rw [ps_write]; exact Nat.zero_le _
 ·rw [if_neg he]; exact Nat.zero_le _
end
end Go.Proofs.Ytkkjofefjepodaa
