/- For ChainPlays: a Chain and three lists of words of the law's own; what is promised of the links that were told and of those that were given back, behind each call, in plain lists. No condition but those of the Chain. -/
import Derived.Test.YtagboodnbgpnkaaChD
import Derived.Test.YtagboodnbgpnkaaApp
namespace Go.Proofs.Ytagboodnbgpnkaa
open Go.ChangeShapes Go.WideShapes Go.ChangeAt Go.RowKit
set_option linter.unusedVariables false

/-- A Chain, and three lists, each in a block of its own. -/
structure Ch3 (W w : World) (p q : Nat) (S : Nat → Prop) (s : RS) (l : List Int) (k : Nat) (v1 : Value) (z1 : List Int) (v2 : Value) (z2 : List Int) (v3 : Value) (z3 : List Int) : Prop where
  r : Chn W w p q S s l k
  a1 : OwnU W.heap.size w v1 z1
  a2 : OwnU W.heap.size w v2 z2
  a3 : OwnU W.heap.size w v3 z3
  s1 : ∀ g, v1.ownBlock = some g → ¬ S g
  s2 : ∀ g, v2.ownBlock = some g → ¬ S g
  s3 : ∀ g, v3.ownBlock = some g → ¬ S g
  d12 : ∀ g, v1.ownBlock = some g → v2.ownBlock ≠ some g
  d23 : ∀ g, v2.ownBlock = some g → v3.ownBlock ≠ some g
  d31 : ∀ g, v3.ownBlock = some g → v1.ownBlock ≠ some g
section
variable {W w w' : World} {p q : Nat} {S S' : Nat → Prop} {s s' : RS} {l l' : List Int} {k k' : Nat} {v1 v2 v3 v' : Value} {z1 z2 z3 z' : List Int}
theorem Ch3.start (h : Chn W w p q S s l k) : Ch3 W w p q S s l k (.slice none 0 0) [] (.slice none 0 0) [] (.slice none 0 0) [] :=
  ⟨h, World.ownsRow_nil _ _ _ _, World.ownsRow_nil _ _ _ _, World.ownsRow_nil _ _ _ _, by simp [Value.ownBlock], by simp [Value.ownBlock], by simp [Value.ownBlock], by simp [Value.ownBlock], by simp [Value.ownBlock], by simp [Value.ownBlock]⟩
theorem Ch3.rot (h : Ch3 W w p q S s l k v1 z1 v2 z2 v3 z3) : Ch3 W w p q S s l k v2 z2 v3 z3 v1 z1 := ⟨h.r, h.a2, h.a3, h.a1, h.s2, h.s3, h.s1, h.d23, h.d31, h.d12⟩
theorem far_S (kk : VKeep S S' w w') {v : Value} (o : OwnU W.heap.size w v z') (d : ∀ g, v.ownBlock = some g → ¬ S g) : ∀ g, v.ownBlock = some g → ¬ S' g := fun g hg x => by
  rcases kk.2 g x with y | y
  · exact d g hg y
  · have := (OwnU.lt o hg).2; omega
theorem Ch3.step (h : Ch3 W w p q S s l k v1 z1 v2 z2 v3 z3) (hr : Chn W w' p q S' s' l' k') (kk : VKeep S S' w w') : Ch3 W w' p q S' s' l' k' v1 z1 v2 z2 v3 z3 :=
  ⟨hr, OwnU.keep h.a1 kk.1 h.s1, OwnU.keep h.a2 kk.1 h.s2, OwnU.keep h.a3 kk.1 h.s3, far_S kk h.a1 h.s1, far_S kk h.a2 h.s2, far_S kk h.a3 h.s3, h.d12, h.d23, h.d31⟩
theorem Ch3.quiet (h : Ch3 W w p q S s l k v1 z1 v2 z2 v3 z3) (kk : Keep (fun _ => False) w w') : Ch3 W w' p q S s l k v1 z1 v2 z2 v3 z3 :=
  ⟨h.r.quiet kk, OwnU.keep h.a1 kk (by simp), OwnU.keep h.a2 kk (by simp), OwnU.keep h.a3 kk (by simp), h.s1, h.s2, h.s3, h.d12, h.d23, h.d31⟩
theorem Ch3.up (h : Ch3 W w p q S s l k v1 z1 v2 z2 v3 z3) {n : Nat} (hk : k ≤ n) : Ch3 W w p q S s l n v1 z1 v2 z2 v3 z3 := ⟨h.r.up hk, h.a1, h.a2, h.a3, h.s1, h.s2, h.s3, h.d12, h.d23, h.d31⟩
/-- The first list is made anew, or goes on: its own block alone has turned, and new ones. -/
theorem Ch3.anew (h : Ch3 W w p q S s l k v1 z1 v2 z2 v3 z3) {T : Nat → Prop} (o : OwnU W.heap.size w' v' z') (kk : Keep T w w') (hT : ∀ g, T g → v1.ownBlock = some g ∨ w.heap.size ≤ g) (hv : ∀ g, v'.ownBlock = some g → v1.ownBlock = some g ∨ w.heap.size ≤ g) : Ch3 W w' p q S s l k v' z' v2 z2 v3 z3 :=
  ⟨h.r.own kk (fun g hg => by
    rcases hT g hg with y | y
    · exact ⟨h.s1 g y, (OwnU.lt h.a1 y).1⟩
    · exact ⟨fun x => by have := h.r.lt g x; omega, Nat.le_trans h.r.b.size y⟩), o,
    OwnU.keep h.a2 kk (fun g hg x => by rcases hT g x with y | y; exact h.d12 g y hg; have := (OwnU.lt h.a2 hg).2; omega),
    OwnU.keep h.a3 kk (fun g hg x => by rcases hT g x with y | y; exact h.d31 g hg y; have := (OwnU.lt h.a3 hg).2; omega),
    fun g hg x => by
      rcases hv g hg with y | y
      · exact h.s1 g y x
      · have := h.r.lt g x; omega,
    h.s2, h.s3,
    fun g hg x => by rcases hv g hg with y | y; exact h.d12 g y x; have := (OwnU.lt h.a2 x).2; omega,
    h.d23,
    fun g hg x => by rcases hv g x with y | y; exact h.d31 g hg y; have := (OwnU.lt h.a3 hg).2; omega⟩
/-- 'x = append(x, y)' of the first list. -/
theorem Ch3.push (h : Ch3 W w p q S s l k v1 z1 v2 z2 v3 z3) {g c : Nat} {y : Int} (o : OwnU w.heap.size w' (.slice (some ⟨g, 0, none⟩) (z1.length + 1) c) (z1 ++ [y]) ∨ OwnU W.heap.size w' (.slice (some ⟨g, 0, none⟩) (z1.length + 1) c) (z1 ++ [y])) (kk : Keep (fun j => v1.ownBlock = some j) w w') (hg : v1.ownBlock = some g ∨ w.heap.size ≤ g) :
    Ch3 W w' p q S s l k (.slice (some ⟨g, 0, none⟩) (z1.length + 1) c) (z1 ++ [y]) v2 z2 v3 z3 :=
  h.anew (by rcases o with o | o; exact OwnU.lower o h.r.b.size; exact o) kk (fun g hg => .inl hg) (fun x hx => by have : g = x := (by simpa [Value.ownBlock] using hx); subst this; exact hg)
end
/-- What is promised of the links that were told, T, and of those given back, F, k calls on: those that live are told, and not given back; those that were given back never live again. -/
structure Told (s : St) (k : Nat) (T F : List Int) : Prop where
  lv : ∀ x, s.live x = true ↔ x ∈ T ∧ x ∉ F
  gn : ∀ g ∈ F, ∃ (i : Nat) (t : Int), g = linkI i t ∧ 0 ≤ t ∧ i < s.tags.length ∧ t < s.tag i
  tg : ∀ i, s.tag i ≤ k
  tb : ∀ x ∈ T, U64 x
  lt : T.length ≤ k
  lf : F.length ≤ k
section
variable {s s' : RS} {k : Nat} {T F l : List Int}
theorem told_new (n : Nat) : Told (RS.new n).s 0 [] [] := by
  refine ⟨fun x => ?_, by simp, fun i => ?_, by simp, by simp, by simp⟩
  · have : (RS.new n).s.live x = false := by
      cases h : (RS.new n).s.live x with
      | false => rfl
      | true =>
        obtain ⟨i, _, h2, _⟩ := (live_iff _ _).1 h
        have : (List.replicate n false).getD i false = true := h2
        rw [getD_rep] at this
        cases this
    simp [this]
  · show (List.replicate n (0 : Int)).getD i 0 ≤ _
    rw [getD_rep]; omega
theorem Told.same (h : Told s.s k T F) (e : s'.s = s.s) : Told s'.s k T F := by rw [e]; exact h
theorem Told.later {s : St} (h : Told s k T F) {n : Nat} (hn : k ≤ n) : Told s n T F := ⟨h.lv, h.gn, fun i => by have := h.tg i; omega, h.tb, by have := h.lt; omega, by have := h.lf; omega⟩
theorem Told.dead {s : St} (h : Told s k T F) {x : Int} (hx : x ∈ T → x ∈ F) : s.live x = false := by
  cases e : s.live x with
  | false => rfl
  | true => have := (h.lv x).1 e; exact absurd (hx this.1) this.2
theorem Told.yes {s : St} (h : Told s k T F) {x : Int} (hx : x ∈ T) (hf : x ∉ F) : s.live x = true := (h.lv x).2 ⟨hx, hf⟩
theorem Told.sub (h : Told s.s k T F) (ln : Linked s l) {x : Int} (hx : x ∈ l) : x ∈ T ∧ x ∉ F := (h.lv x).1 (ln.live x hx)
/-- What a Make does of it. -/
theorem Told.make (h : Told s.s k T F) (ok : ROk s) (ln : Linked s l) (key v b e : Int) (k0 : 0 ≤ key) (k1 : key ≤ 63) (v0 : 0 ≤ v) (v1 : v ≤ 65535) :
    (∃ s', s.make key v b e = (0, 15, s') ∧ Told s'.s k T F) ∨ (∃ x s', s.make key v b e = (x, 0, s') ∧ U64 x ∧ x ∉ l ∧ s'.s.live x = true ∧ Told s'.s (k + 1) (T ++ [x]) F) := by
  unfold RS.make
  rw [if_neg (by omega)]
  cases ht : s.s.top with
  | none => exact .inl ⟨_, rfl, h⟩
  | some i =>
    refine .inr ⟨_, _, rfl, ?_⟩
    obtain ⟨hi, hk, ok', et, ek, _⟩ := ok_took ok.p ht
    have n1 := ok.p.n1
    have lb := link_b ok.p i hi
    have hl' : s.s.took.link i = s.s.link i := by unfold St.link St.tag; rw [et]
    have hnew : s.s.took.live (s.s.link i) = true := by
      have htk : s.s.took.tk i = true := by
        show s.s.took.taken.getD i false = true
        rw [ek, tk_set true (by rw [ok.p.tl]; exact hi), if_pos rfl]
      have := live_link ok' i (by rw [et]; exact hi) htk
      rwa [hl'] at this
    have hso : slotOf (s.s.link i) = i := slot_link s.s i (by omega)
    have dead : s.s.live (s.s.link i) = false := by
      cases e : s.s.live (s.s.link i) with
      | false => rfl
      | true => have := (slot_live e).2.1; rw [hso, hk] at this; cases this
    have hF : s.s.link i ∉ F := fun hm => by
      obtain ⟨j, t, e1, t0, hj, htj⟩ := h.gn _ hm
      have tb := ok.p.tg j
      have m1 := ok.p.m1
      unfold St.link linkI at e1
      have tgi := ok.p.tg i
      have : i = j := by omega
      subst this
      omega
    refine ⟨⟨by omega, by omega⟩, fun hx => (by rw [ln.live _ hx] at dead; cases dead), hnew, ⟨fun x => ?_, fun g hg => ?_, fun j => ?_, fun x hx => ?_, by have := h.lt; simp; omega, by have := h.lf; omega⟩⟩
    · constructor
      · intro hx
        by_cases e : x = s.s.link i
        · subst e; exact ⟨by simp, hF⟩
        · have : s.s.live x = true := by
            obtain ⟨j, h1, h2, h3, _⟩ := (live_iff _ _).1 hx
            have h2 : s.s.took.taken.getD j false = true := h2
            rw [ek, tk_set true (by rw [ok.p.tl]; exact hi)] at h2
            have hl2 : s.s.took.link j = s.s.link j := by unfold St.link St.tag; rw [et]
            have hji : j ≠ i := fun e2 => e (by rw [h3, hl2, e2])
            rw [if_neg hji] at h2
            rw [h3, hl2]
            exact live_link ok.p j (by rw [← et]; exact h1) h2
          have := (h.lv x).1 this
          exact ⟨List.mem_append_left _ this.1, this.2⟩
      · rintro ⟨h1, h2⟩
        rcases List.mem_append.1 h1 with h1 | h1
        · exact (took_live ok.p ht ((h.lv x).2 ⟨h1, h2⟩)).1
        · obtain rfl : x = s.s.link i := by simpa using h1
          exact hnew
    · obtain ⟨j, t, a1, a2, a3, a4⟩ := h.gn g hg
      exact ⟨j, t, a1, a2, by show j < s.s.took.tags.length; rw [et]; exact a3, by show t < s.s.took.tags.getD j 0; rw [et]; exact a4⟩
    · have := h.tg j
      show s.s.took.tags.getD j 0 ≤ _
      rw [et]
      show s.s.tag j ≤ _
      omega
    · rcases List.mem_append.1 hx with hx | hx
      · exact h.tb x hx
      · obtain rfl : x = s.s.link i := by simpa using hx
        exact ⟨by omega, by omega⟩
/-- What a Free does of it. -/
theorem Told.free (h : Told s.s k T F) (ok : ROk s) (hk : k < 65535) {x : Int} (hx : x ∈ T) (hf : x ∉ F) :
    ∃ s', s.free x = (0, s') ∧ s'.s.live x = false ∧ Told s'.s (k + 1) T (F ++ [x]) := by
  have hl := h.yes hx hf
  obtain ⟨hi, ht, el⟩ := slot_live hl
  unfold RS.free
  rw [if_pos hl]
  obtain ⟨i, ei⟩ : ∃ i, slotOf x = i := ⟨_, rfl⟩
  rw [ei] at hi ht el
  have m := ok.m
  have tgi := h.tg i
  have t0 := (ok.p.tg i).1
  have hm : ¬ s.s.tag i = s.s.most := by omega
  obtain ⟨g1, g2, g3, g4⟩ := gave_parts s.s i
  have g5 : (s.s.gave i).tag i = s.s.tag i + 1 := by
    unfold St.gave
    rw [if_neg hm]
    show (s.s.tags.set i (s.s.tag i + 1)).getD i 0 = _
    rw [tag_set _ hi, if_pos rfl]
  have hd := gave_live_self s.s i x ei
  rw [ei]
  refine ⟨_, rfl, hd, ⟨fun y => ?_, fun g hg => ?_, fun j => ?_, h.tb, by have := h.lt; omega, by have := h.lf; simp; omega⟩⟩
  · by_cases e : y = x
    · subst e
      show (s.s.gave i).live y = true ↔ _
      rw [hd]
      simp
    · by_cases es : slotOf y = i
      · have d2 := gave_live_self s.s i y es
        show (s.s.gave i).live y = true ↔ _
        rw [d2]
        constructor
        · intro h; cases h
        · rintro ⟨h1, h2⟩
          have h2' : y ∉ F := fun hm => h2 (List.mem_append_left _ hm)
          exact absurd (slot_inj (h.yes h1 h2') hl (es.trans ei.symm)) e
      · show (s.s.gave i).live y = true ↔ _
        rw [gave_live_other _ _ _ es, h.lv y]
        simp [e]
  · show ∃ (j : Nat) (t : Int), g = linkI j t ∧ 0 ≤ t ∧ j < (s.s.gave i).tags.length ∧ t < (s.s.gave i).tag j
    rw [g1]
    rcases List.mem_append.1 hg with hg | hg
    · obtain ⟨j, t, a1, a2, a3, a4⟩ := h.gn g hg
      refine ⟨j, t, a1, a2, a3, ?_⟩
      by_cases e : j = i
      · subst e; rw [g5]; omega
      · rw [g4 j e]; exact a4
    · obtain rfl : g = x := by simpa using hg
      exact ⟨i, s.s.tag i, el, t0, hi, by rw [g5]; omega⟩
  · show (s.s.gave i).tag j ≤ _
    by_cases e : j = i
    · subst e; rw [g5]; omega
    · rw [g4 j e]; have := h.tg j; omega
end
theorem erase_first {l : List Int} : ∀ {x : Int} {i : Nat}, i < l.length → l.getD i 0 = x → (∀ m, m < i → l.getD m 0 ≠ x) → l.erase x = l.take i ++ l.drop (i + 1) := by
  induction l with
  | nil => intro x i h; simp at h
  | cons a l ih =>
    intro x i hi he hn
    cases i with
    | zero =>
      rw [List.getD_cons_zero] at he
      subst he
      simp
    | succ i =>
      have h0 := hn 0 (by omega)
      rw [List.getD_cons_zero] at h0
      rw [List.getD_cons_succ] at he
      rw [List.erase_cons_tail (by simpa using h0), ih (by simpa using hi) he (fun m hm => by have := hn (m + 1) (by omega); rwa [List.getD_cons_succ] at this)]
      rfl
theorem emp_own (W : World) {B : Nat} (hB : B ≤ W.heap.size) : ∃ W', W.alloc (.cells #[] 27) = W' ∧ OwnU B W' (.slice (some ⟨W.heap.size, 0, none⟩) 0 0) [] ∧ Keep (fun _ => False) W W' ∧ W.heap.size < W'.heap.size :=
  ⟨_, rfl, own_empty hB, Keep.alloc (Keep.refl _ _) _, by simp⟩
theorem erase_len {l : List Int} {x : Int} : (l.erase x).length ≤ l.length := by rw [List.length_erase]; split <;> omega
end Go.Proofs.Ytagboodnbgpnkaa
