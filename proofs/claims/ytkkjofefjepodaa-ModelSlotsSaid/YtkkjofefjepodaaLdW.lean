/- Package model as landed, in plain lists, third part: writes; what is seen; what still holds; Pairs; how many there are. No dump; no condition. -/
import Derived.Test.YtkkjofefjepodaaLdR
namespace Go.Proofs.Ytkkjofefjepodaa
set_option linter.unusedVariables false
set_option linter.unusedSimpArgs false
section
variable {L : List (Nat × VeI)} {io : Nat → Int} {z : LdI} {x : MoI} {i : Nat} {t : TtI}
/-- Blocks tell versions. -/
theorem LrL.uniq (h : LrL L io z x) {j n : Nat} {p q : Nat × VeI} (hj : L[j]? = some p) (hn : L[n]? = some q) (e : p.2.b = q.2.b) : j = n := by
  have a : (L.map (·.2.b))[j]? = some p.2.b := by rw [List.getElem?_map, hj]; rfl
  have b : (L.map (·.2.b))[n]? = some q.2.b := by rw [List.getElem?_map, hn]; rfl
  have lj := (List.getElem?_eq_some_iff.1 a).1
  have ln := (List.getElem?_eq_some_iff.1 b).1
  refine (List.getElem_inj h.nd).1 (?_ : (L.map (·.2.b))[j] = (L.map (·.2.b))[n])
  rw [(List.getElem?_eq_some_iff.1 a).2, (List.getElem?_eq_some_iff.1 b).2, e]
theorem LrL.one (h : LrL L io z x) {p q : Nat × VeI} (hp : p ∈ L) (hq : q ∈ L) (e : p.2.b = q.2.b) : p = q := by
  obtain ⟨j, hj⟩ := List.mem_iff_getElem?.1 hp
  obtain ⟨n, hn⟩ := List.mem_iff_getElem?.1 hq
  obtain rfl := h.uniq hj hn e
  rw [hj] at hn
  exact Option.some.inj hn
def turnB (b : Nat) (f : VeI → VeI) (l : List VeI) : List VeI := l.map fun u => if u.b = b then f u else u
/-- One version is turned. -/
theorem LrL.turn (h : LrL L io z x) {j k : Nat} {v : VeI} (hj : L[j]? = some (k, v)) (f : VeI → VeI) (fy : VrI → VrI) (hb : ∀ u, (f u).b = u.b) (hmk : (f v).mr = v.mr) (hen : ∀ e, (f v).en = some e → UsO z.begun z.s z.F io e)
    (hlost : ∀ i u, i < 8 → z.s i = some u → v.en = some u.f → (f v).en = some u.f ∨ v.mr = u.f) (hfy : verOf z.F io (k, f v) = fy (verOf z.F io (k, v))) :
    ∃ L', LrL L' io { z with k := putK z.k k (turnB v.b f (z.k k)) } { x with v := setV x.v j fy } ∧ ∀ u ∈ L, ∃ u' ∈ L', u'.1 = u.1 ∧ u'.2.mr = u.2.mr ∧ (u' = u ∨ (u = (k, v) ∧ u' = (k, f v))) := by
  have hm := List.mem_of_getElem? hj
  have un : ∀ p ∈ L, p.2.b = v.b → p = (k, v) := fun p hp e => h.one hp hm e
  obtain ⟨L', hL⟩ : ∃ L', (L.map fun p => if p.2.b = v.b then (p.1, f p.2) else p) = L' := ⟨_, rfl⟩
  have inL : ∀ p ∈ L, (if p.2.b = v.b then (p.1, f p.2) else p) ∈ L' := fun p hp => by rw [← hL]; exact List.mem_map_of_mem hp
  have ofL : ∀ q ∈ L', q ∈ L ∨ q = (k, f v) := fun q hq => by
    rw [← hL] at hq
    obtain ⟨p, hp, rfl⟩ := List.mem_map.1 hq
    by_cases e : p.2.b = v.b
    · rw [if_pos e, un p hp e]; exact .inr rfl
    · rw [if_neg e]; exact .inl hp
  refine ⟨L', ⟨h.c1, h.c2, h.c3, h.c4, ?_, fun k' hk' => ?_, fun p hp => ?_, ?_, fun p hp => ?_, fun p hp e he => ?_, h.no, fun a u ha hu => ?_⟩, fun u hu => ?_⟩
  · show setV x.v j fy = L'.map (verOf z.F io)
    unfold setV
    rw [h.v, ← hL]
    refine List.ext_getElem? fun n => ?_
    rw [List.getElem?_modify, List.getElem?_map, List.getElem?_map, List.getElem?_map]
    cases c : L[n]? with
    | none => rfl
    | some p =>
      by_cases e : j = n
      · subst e
        rw [hj] at c
        obtain rfl := Option.some.inj c
        simp [hfy]
      · have : p.2.b ≠ v.b := fun q => e (h.uniq hj c q.symm)
        simp [e, this]
  · show putK z.k k (turnB v.b f (z.k k)) k' = _
    rw [← hL]
    by_cases e : k' = k
    · subst e
      rw [putK_self, h.k k' hk']
      unfold turnB
      rw [List.filter_map, List.map_map, List.map_map]
      have : (L.filter ((fun p : Nat × VeI => decide (p.1 = k')) ∘ fun p => if p.2.b = v.b then (p.1, f p.2) else p)) = L.filter fun p => decide (p.1 = k') := List.filter_congr fun p hp => by
        show decide ((if p.2.b = v.b then (p.1, f p.2) else p).1 = k') = _
        split <;> rfl
      rw [this]
      refine List.map_congr_left fun p hp => ?_
      show (if p.2.b = v.b then f p.2 else p.2) = (if p.2.b = v.b then (p.1, f p.2) else p).2
      split <;> rfl
    · rw [putK_ne _ _ e, h.k k' hk', List.filter_map, List.map_map]
      have : (L.filter ((fun p : Nat × VeI => decide (p.1 = k')) ∘ fun p => if p.2.b = v.b then (p.1, f p.2) else p)) = L.filter fun p => decide (p.1 = k') := List.filter_congr fun p hp => by
        show decide ((if p.2.b = v.b then (p.1, f p.2) else p).1 = k') = _
        split <;> rfl
      rw [this]
      refine List.map_congr_left fun p hp => ?_
      obtain ⟨hp, ek⟩ := List.mem_filter.1 hp
      have ek := of_decide_eq_true ek
      have : p.2.b ≠ v.b := fun q => e (by rw [← ek, un p hp q])
      show p.2 = (if p.2.b = v.b then (p.1, f p.2) else p).2
      rw [if_neg this]
  · rcases ofL p hp with q | q
    · exact h.lt p q
    · rw [q]; exact h.lt (k, v) hm
  · have : L'.map (·.2.b) = L.map (·.2.b) := by
      rw [← hL, List.map_map]
      refine List.map_congr_left fun p hp => ?_
      show (if p.2.b = v.b then (p.1, f p.2) else p).2.b = p.2.b
      split
      · exact hb _
      · rfl
    rw [this]; exact h.nd
  · rcases ofL p hp with q | q
    · exact h.mu p q
    · rw [q]; show UsO _ _ _ _ (f v).mr; rw [hmk]; exact h.mu _ hm
  · rcases ofL p hp with q | q
    · exact h.en p q e he
    · rw [q] at he; exact hen e he
  · have tu := h.ts a u ha hu
    refine ⟨tu.id, tu.nz, tu.level, tu.start, tu.ops, tu.st, tu.io, fun key hk => ?_, tu.ag, tu.an⟩
    obtain ⟨p, hp, e, w⟩ := tu.wr key hk
    refine ⟨_, inL p hp, ?_⟩
    by_cases q : p.2.b = v.b
    · rw [if_pos q]
      obtain rfl := un p hp q
      refine ⟨e, ?_⟩
      show (f v).mr = u.f ∨ (f v).en = some u.f
      rw [hmk]
      rcases w with w | w
      · exact .inl w
      · exact (hlost a u ha hu w).symm
    · rw [if_neg q]; exact ⟨e, w⟩
  · refine ⟨_, inL u hu, ?_⟩
    by_cases q : u.2.b = v.b
    · rw [if_pos q]
      obtain rfl := un u hu q
      exact ⟨rfl, hmk, .inr ⟨rfl, rfl⟩⟩
    · rw [if_neg q]; exact ⟨rfl, rfl, .inl rfl⟩
/-- A version is made. -/
theorem LrL.new (h : LrL L io z x) {k : Nat} (hk : k < 64) (v : VeI) (hb : ∀ p ∈ L, p.2.b ≠ v.b) (um : UsO z.begun z.s z.F io v.mr) (he : v.en = none) : LrL (L ++ [(k, v)]) io { z with k := putK z.k k (z.k k ++ [v]) } { x with v := x.v ++ [verOf z.F io (k, v)] } := by
  refine ⟨h.c1, h.c2, h.c3, h.c4, ?_, fun k' hk' => ?_, fun p hp => ?_, ?_, fun p hp => ?_, fun p hp e he' => ?_, h.no, fun a u ha hu => ?_⟩
  · show x.v ++ [verOf z.F io (k, v)] = _
    rw [List.map_append, h.v]; rfl
  · show putK z.k k (z.k k ++ [v]) k' = _
    rw [List.filter_append, List.map_append]
    by_cases e : k' = k
    · subst e
      rw [putK_self, h.k k' hk']
      simp
    · rw [putK_ne _ _ e, h.k k' hk']
      simp [Ne.symm e]
  · rcases List.mem_append.1 hp with q | q
    · exact h.lt p q
    · rw [List.mem_singleton.1 q]; exact hk
  · rw [List.map_append]
    refine List.nodup_append.2 ⟨h.nd, by simp, fun a ha b hb' => ?_⟩
    obtain ⟨p, hp, rfl⟩ := List.mem_map.1 ha
    have : b = v.b := by simpa using hb'
    rw [this]; exact hb p hp
  · rcases List.mem_append.1 hp with q | q
    · exact h.mu p q
    · rw [List.mem_singleton.1 q]; exact um
  · rcases List.mem_append.1 hp with q | q
    · exact h.en p q e he'
    · rw [List.mem_singleton.1 q] at he'; rw [show v.en = some e from he'] at he; cases he
  · have tu := h.ts a u ha hu
    refine ⟨tu.id, tu.nz, tu.level, tu.start, tu.ops, tu.st, tu.io, fun key hk => ?_, tu.ag, tu.an⟩
    obtain ⟨p, hp, w⟩ := tu.wr key hk
    exact ⟨p, List.mem_append.2 (.inl hp), w⟩
/-- What a session sees of a key. -/
theorem LrL.sees (h : LrL L io z x) (g : Good x) (hi : i < 8) (ht : z.s i = some t) {k : Nat} (hk : k < 64) :
    (seesI x.v (x.s i).id (x.s i).start k = none ∧ (z.k k).find? (seesV z.F t) = none) ∨ ∃ j v, seesI x.v (x.s i).id (x.s i).start k = some j ∧ L[j]? = some (k, v) ∧ (z.k k).find? (seesV z.F t) = some v ∧ seesV z.F t v = true := by
  have ts := h.ts i t hi ht
  have id0 : (x.s i).id ≠ 0 := by rw [ts.id]; exact ts.nz
  have E : seesI x.v (x.s i).id (x.s i).start k = x.v.findIdx? fun y => mineV (x.s i).id k y || elderV (x.s i).id k (x.s i).start y := by
    unfold seesI
    cases c : x.v.findIdx? (mineV (x.s i).id k) with
    | none =>
      show x.v.findIdx? _ = _
      refine findIdx_congr _ _ _ fun y hy => ?_
      rw [List.findIdx?_eq_none_iff.1 c y hy]; rfl
    | some j =>
      obtain ⟨y, hy, q⟩ := findIdx_some c
      obtain ⟨e, d, n, b⟩ := mine_iff.1 q
      have hw := ((g.ver y (List.mem_of_getElem? hy)).by' (by rw [b]; exact id0)).2.2 d
      rw [b, e] at hw
      have hw := g.whose hi rfl id0 hw
      show some j = _
      rw [← c]
      refine findIdx_congr _ _ _ fun y hy => ?_
      rw [g.no_elder hi id0 hw hy, Bool.or_false]
  cases c : seesI x.v (x.s i).id (x.s i).start k with
  | none =>
    rw [E] at c
    exact .inl ⟨rfl, h.find_none hk (h.q_sees g hi ht k) c⟩
  | some j =>
    rw [E] at c
    obtain ⟨v, a1, a2, a3, a4⟩ := h.find_some hk (h.q_sees g hi ht k) c
    exact .inr ⟨j, v, rfl, a1, a4, a2⟩
end
end Go.Proofs.Ytkkjofefjepodaa
