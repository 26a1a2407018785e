/- Package model as landed, in plain lists: what each call makes of what it tells (Lr), by the ways of Do. No dump; no condition. -/
import Derived.Test.YtkkjofefjepodaaLdV
namespace Go.Proofs.Ytkkjofefjepodaa
set_option linter.unusedVariables false
set_option linter.unusedSimpArgs false
section
variable {L : List (Nat × VeI)} {io : Nat → Int} {z : LdI} {x : MoI} {i : Nat} {t : TtI} {F : Nat → FtI} {y y' : TxI}
theorem lr_new (slots limit : Int) (F : Nat → FtI) : Lr ⟨slots, limit, 0, 0, fun _ => none, fun _ => [], F⟩ (new0 slots limit) :=
  ⟨[], fun _ => 0, rfl, rfl, rfl, rfl, rfl, fun _ _ => rfl, (fun p hp => by cases hp), List.nodup_nil, (fun p hp => by cases hp), (fun p hp => by cases hp), fun _ _ _ => rfl, (fun _ _ _ h => by cases h)⟩
/-- One more call of a transaction. -/
theorem TsO.ops1 (h : TsO L F io t y) : TsO L F io { t with ops := t.ops + 1 } { y with ops := y.ops + 1 } :=
  ⟨h.id, h.nz, h.level, h.start, by show y.ops + 1 = t.ops + 1; rw [h.ops], h.st, h.io, h.wr, h.ag, h.an⟩
/-- .. that has read. -/
theorem TsO.reads (h : TsO L F io t y) (lvl lo hi : Int) (found scan : Bool) (hl : lvl = if found = true then 2 else 3) : TsO L F io { t with again := fun k => t.again k || (decide (lvl ≤ t.level) && decide (lo ≤ (k : Int)) && decide ((k : Int) ≤ hi)) } { y with reads := y.reads ++ [⟨lo, hi, found, scan⟩] } := by
  have old : ∀ k, needs y k → needs { y with reads := y.reads ++ [⟨lo, hi, found, scan⟩] } k := fun k ⟨r, hr, a⟩ => ⟨r, List.mem_append.2 (.inl hr), a⟩
  refine ⟨h.id, h.nz, h.level, h.start, h.ops, h.st, h.io, h.wr, fun k hk ha => ?_, fun k hk h2 hn => ?_⟩
  · have ha : (t.again k || (decide (lvl ≤ t.level) && decide (lo ≤ (k : Int)) && decide ((k : Int) ≤ hi))) = true := ha
    rw [Bool.or_eq_true, Bool.and_eq_true, Bool.and_eq_true, decide_eq_true_iff, decide_eq_true_iff, decide_eq_true_iff] at ha
    rcases ha with ha | ⟨⟨a, b⟩, c⟩
    · obtain ⟨p, q⟩ := h.ag k hk ha
      exact ⟨p, q.imp (old _) fun q => q⟩
    · have l2 : 2 ≤ t.level := by rw [hl] at a; split at a <;> omega
      refine ⟨l2, .inl ⟨_, List.mem_append.2 (.inr (List.mem_singleton.2 rfl)), fun e => ?_, b, c⟩⟩
      have e1 : y.level = 2 := e.1
      have e2 : found = false := e.2
      rw [hl, e2] at a
      rw [h.level] at e1
      simp at a
      omega
  · show (t.again k || (decide (lvl ≤ t.level) && decide (lo ≤ (k : Int)) && decide ((k : Int) ≤ hi))) = true
    have h2 : 2 ≤ t.level := h2
    obtain ⟨r, hr, sk, a, b⟩ := hn
    rcases List.mem_append.1 hr with q | q
    · rw [h.an k hk h2 ⟨r, q, sk, a, b⟩]; rfl
    · have := List.mem_singleton.1 q
      subst this
      have sk : ¬ (y.level = 2 ∧ found = false) := sk
      rw [h.level] at sk
      rw [Bool.or_eq_true]
      right
      rw [Bool.and_eq_true, Bool.and_eq_true, decide_eq_true_iff, decide_eq_true_iff, decide_eq_true_iff]
      refine ⟨⟨?_, a⟩, b⟩
      rw [hl]
      cases found with
      | true => simp; omega
      | false => simp at sk ⊢; omega
/-- .. of a key that it has written. -/
theorem TsO.again1 (h : TsO L F io t y) (lvl : Int) (hl : 2 ≤ lvl) {key : Nat} (hk : (key : Int) ∈ y.wrote) : TsO L F io { t with again := fun k => t.again k || (decide (lvl ≤ t.level) && decide ((key : Int) ≤ (k : Int)) && decide ((k : Int) ≤ (key : Int))) } y := by
  refine ⟨h.id, h.nz, h.level, h.start, h.ops, h.st, h.io, h.wr, fun k hk' ha => ?_, fun k hk' h2 hn => ?_⟩
  · have ha : (t.again k || (decide (lvl ≤ t.level) && decide ((key : Int) ≤ (k : Int)) && decide ((k : Int) ≤ (key : Int)))) = true := ha
    rw [Bool.or_eq_true, Bool.and_eq_true, Bool.and_eq_true, decide_eq_true_iff, decide_eq_true_iff, decide_eq_true_iff] at ha
    rcases ha with ha | ⟨⟨a, b⟩, c⟩
    · exact h.ag k hk' ha
    · refine ⟨by show 2 ≤ t.level; omega, .inr ?_⟩
      rw [show (k : Int) = key by omega]; exact hk
  · show (t.again k || _) = true
    rw [h.an k hk' h2 hn]; rfl
/-- .. that has written a key. -/
theorem TsO.wrote1 (h : TsO L F io t y) (key : Nat) {p : Nat × VeI} (hp : p ∈ L) (e : p.1 = key) (hm : p.2.mr = t.f ∨ p.2.en = some t.f) : TsO L F io t { y with wrote := if (key : Int) ∈ y.wrote then y.wrote else y.wrote ++ [(key : Int)] } := by
  have sub : ∀ k, k ∈ y.wrote → k ∈ (if (key : Int) ∈ y.wrote then y.wrote else y.wrote ++ [(key : Int)]) := fun k hk => by
    split
    · exact hk
    · exact List.mem_append.2 (.inl hk)
  refine ⟨h.id, h.nz, h.level, h.start, h.ops, h.st, h.io, fun k hk => ?_, fun k hk ha => ?_, h.an⟩
  · have hk : k ∈ (if (key : Int) ∈ y.wrote then y.wrote else y.wrote ++ [(key : Int)]) := hk
    by_cases c : k ∈ y.wrote
    · exact h.wr k c
    · have : k = key := by
        split at hk
        · exact absurd hk c
        · rcases List.mem_append.1 hk with q | q
          · exact absurd q c
          · exact List.mem_singleton.1 q
      exact ⟨p, hp, by omega, hm⟩
  · obtain ⟨a, b⟩ := h.ag k hk ha
    exact ⟨a, b.imp (fun q => q) (sub _)⟩
theorem LrL.count (h : LrL L io z x) (hi : i < 8) (ht : z.s i = some t) : LrL L io { z with s := putT z.s i (some { t with ops := t.ops + 1 }) } (x.count i) :=
  h.putS hi ht _ _ rfl rfl (h.ts i t hi ht).ops1
/-- A get, a scan, a write that fails: what is read is kept. -/
theorem LrL.keepR (h : LrL L io z x) (hi : i < 8) (ht : z.s i = some t) (lvl lo hi' : Int) (found scan : Bool) (hl : lvl = if found = true then 2 else 3) :
    LrL L io { z with s := putT z.s i (some { t with again := fun k => t.again k || (decide (lvl ≤ t.level) && decide (lo ≤ (k : Int)) && decide ((k : Int) ≤ hi')) }) } (x.keepR i ⟨lo, hi', found, scan⟩) :=
  h.putS hi ht _ _ rfl rfl ((h.ts i t hi ht).reads lvl lo hi' found scan hl)
theorem putS_same {s : Nat → TxI} {i : Nat} : Go.Proofs.Ytkkjofefjepodaa.putS s i (s i) = s := by
  funext j
  unfold Go.Proofs.Ytkkjofefjepodaa.putS
  by_cases e : j = i
  · rw [if_pos e, e]
  · rw [if_neg e]
theorem LrL.keepA (h : LrL L io z x) (hi : i < 8) (ht : z.s i = some t) (lvl : Int) (hl : 2 ≤ lvl) {key : Nat} (hk : (key : Int) ∈ (x.s i).wrote) :
    LrL L io { z with s := putT z.s i (some { t with again := fun k => t.again k || (decide (lvl ≤ t.level) && decide ((key : Int) ≤ (k : Int)) && decide ((k : Int) ≤ (key : Int))) }) } x := by
  have := h.putS hi ht { t with again := fun k => t.again k || (decide (lvl ≤ t.level) && decide ((key : Int) ≤ (k : Int)) && decide ((k : Int) ≤ (key : Int))) } (x.s i) rfl rfl ((h.ts i t hi ht).again1 lvl hl hk)
  rw [putS_same] at this
  exact this
/-- A session has written a key. -/
theorem LrL.keepW (h : LrL L io z x) (hi : i < 8) (ht : z.s i = some t) (key : Nat) {p : Nat × VeI} (hp : p ∈ L) (e : p.1 = key) (hm : p.2.mr = t.f ∨ p.2.en = some t.f) :
    LrL L io z { x with s := Go.Proofs.Ytkkjofefjepodaa.putS x.s i { x.s i with wrote := if (key : Int) ∈ (x.s i).wrote then (x.s i).wrote else (x.s i).wrote ++ [(key : Int)] } } := by
  have := h.putS hi ht t _ rfl rfl ((h.ts i t hi ht).wrote1 key hp e hm)
  have e2 : putT z.s i (some t) = z.s := by
    funext j
    unfold putT
    by_cases q : j = i
    · rw [if_pos q, q, ht]
    · rw [if_neg q]
  have e3 : ({ z with s := putT z.s i (some t) } : LdI) = z := by rw [e2]
  rw [e3] at this
  exact this
theorem LrL.usT (h : LrL L io z x) (g : Good x) (hi : i < 8) (ht : z.s i = some t) : UsO z.begun z.s z.F io t.f := by
  have ts := h.ts i t hi ht
  refine ⟨.inl ts.st, fun _ => ⟨i, t, hi, ht, rfl⟩, fun e => by rw [ts.st] at e; omega, ?_, fun j u hj' hu e => ?_⟩
  · rw [ts.io]
    have := (g.ses i hi).id
    have c4 := h.c4
    rw [ts.id] at this
    have := ts.nz
    omega
  · have tu := h.ts j u hj' hu
    have e2 : i = j := g.ids i j hi hj' (by rw [ts.id]; exact ts.nz) (by rw [ts.id, tu.id, ← ts.io, e])
    subst e2
    rw [ht] at hu
    cases hu; rfl
/-- What is neither barred nor unseen has not been ended by a committed one. -/
theorem stop_free (h : LrL L io z x) (hi : i < 8) (ht : z.s i = some t) {v : VeI} (hs : v.en ≠ some t.f → byF z.F v.en t.start = false) (nc : confV z.F t v = false) : stopO z.F v.en = 0 := by
  have ts := h.ts i t hi ht
  cases hen : v.en with
  | none => rfl
  | some d =>
    unfold stopO
    simp only
    by_cases s3 : (z.F d).st = 3
    · exfalso
      have nd : d ≠ t.f := fun c => by rw [c, ts.st] at s3; omega
      have b := hs (by rw [hen]; simpa using nd)
      unfold confV sinceF at nc
      unfold byF at b
      rw [Bool.or_eq_false_iff] at nc
      have q := nc.2
      rw [hen] at q b
      simp [nd, s3] at q b
      omega
    · rw [if_neg s3]
theorem LrL.conf_mem (h : LrL L io z x) {k : Nat} (hk : k < 64) (hc : (z.k k).find? (confV z.F t) = none) {v : VeI} (hm : (k, v) ∈ L) : confV z.F t v = false := by
  have : v ∈ z.k k := by rw [h.k k hk]; exact List.mem_map.2 ⟨(k, v), List.mem_filter.2 ⟨hm, decide_eq_true rfl⟩, rfl⟩
  have := List.find?_eq_none.1 hc v this
  simpa using this
/-- The version that one sees is ended by oneself. -/
theorem LrL.endV (h : LrL L io z x) (g : Good x) (hi : i < 8) (ht : z.s i = some t) {k : Nat} (hk : k < 64) (hc : (z.k k).find? (confV z.F t) = none) {j : Nat} {v : VeI} (hj : L[j]? = some (k, v)) (hs : seesV z.F t v = true) :
    ∃ L', LrL L' io { z with k := putK z.k k (turnB v.b (fun u => { u with en := some t.f }) (z.k k)) } { x with v := setV x.v j fun y => { y with ended := (x.s i).id } } ∧ ∃ p ∈ L', p.1 = k ∧ p.2.en = some t.f := by
  have ts := h.ts i t hi ht
  have hm := List.mem_of_getElem? hj
  have nc := h.conf_mem (t := t) hk hc hm
  have st0 : stopO z.F v.en = 0 := stop_free h hi ht (fun hne => by
    unfold seesV knowsF at hs
    rw [Bool.and_eq_true] at hs
    have q := hs.2
    rw [Bool.not_eq_true', Bool.or_eq_false_iff] at q
    exact q.2) nc
  obtain ⟨L', hL, hw⟩ := h.turn hj (fun u => { u with en := some t.f }) (fun y => { y with ended := (x.s i).id }) (fun _ => rfl) rfl (fun e he => by cases he; exact h.usT g hi ht) (fun a u ha hu he => by
    by_cases c : u.f = t.f
    · left; show some t.f = some u.f; rw [c]
    · exfalso
      have tu := h.ts a u ha hu
      unfold confV sinceF at nc
      rw [Bool.or_eq_false_iff] at nc
      have q := nc.2
      rw [he] at q
      simp [c, tu.st] at q) (by
    unfold verOf
    have e1 : endO z.F io (some t.f) = (x.s i).id := by unfold endO; simp only; rw [if_pos ts.st, ts.io, ts.id]
    have e2 : stopO z.F (some t.f) = 0 := by unfold stopO; simp only; rw [ts.st]; rfl
    simp only [e1, e2, st0])
  refine ⟨L', hL, ?_⟩
  obtain ⟨u', hu', a, _, b⟩ := hw _ hm
  refine ⟨u', hu', a, ?_⟩
  rcases b with b | ⟨_, b⟩
  · by_cases c : v.en = some t.f
    · rw [b]; exact c
    · exfalso
      have nk := hL.nd
      have : (k, v) ∈ L' := by rw [← b]; exact hu'
      have hk2 := hL.k k hk
      rw [show ({ z with k := putK z.k k (turnB v.b (fun u => { u with en := some t.f }) (z.k k)) } : LdI).k k = turnB v.b (fun u => { u with en := some t.f }) (z.k k) from putK_self _ _ _] at hk2
      have : v ∈ turnB v.b (fun u => { u with en := some t.f }) (z.k k) := by rw [hk2]; exact List.mem_map.2 ⟨(k, v), List.mem_filter.2 ⟨this, decide_eq_true rfl⟩, rfl⟩
      obtain ⟨q, _, e⟩ := List.mem_map.1 this
      by_cases q2 : q.b = v.b
      · rw [if_pos q2] at e
        have := congrArg VeI.en e
        exact c this.symm
      · rw [if_neg q2] at e
        exact q2 (by rw [e])
  · rw [b]
/-- One's own version is given a value. -/
theorem LrL.valV (h : LrL L io z x) (hi : i < 8) (ht : z.s i = some t) {k : Nat} (hk : k < 64) (hc : (z.k k).find? (confV z.F t) = none) {j : Nat} {v : VeI} (hj : L[j]? = some (k, v)) (hmr : v.mr = t.f) (hst : stopO z.F v.en = 0) (val : Int) :
    ∃ L', LrL L' io { z with k := putK z.k k (turnB v.b (fun u => { u with val := val, en := none }) (z.k k)) } { x with v := setV x.v j fun y => { y with ended := 0, val := val } } ∧ ∃ p ∈ L', p.1 = k ∧ p.2.mr = t.f := by
  have ts := h.ts i t hi ht
  have hm := List.mem_of_getElem? hj
  have nc := h.conf_mem (t := t) hk hc hm
  obtain ⟨L', hL, hw⟩ := h.turn hj (fun u => { u with val := val, en := none }) (fun y => { y with ended := 0, val := val }) (fun _ => rfl) rfl (fun e he => by cases he) (fun a u ha hu he => by
    by_cases c : u.f = t.f
    · right; rw [c]; exact hmr
    · exfalso
      have tu := h.ts a u ha hu
      unfold confV sinceF at nc
      rw [Bool.or_eq_false_iff] at nc
      have q := nc.2
      rw [he] at q
      simp [c, tu.st] at q) (by
    unfold verOf
    simp only [hst]
    rfl)
  refine ⟨L', hL, ?_⟩
  obtain ⟨u', hu', a, b, _⟩ := hw _ hm
  exact ⟨u', hu', a, by rw [b]; exact hmr⟩
/-- A version is made by a session. -/
theorem LrL.newV (h : LrL L io z x) (g : Good x) (hi : i < 8) (ht : z.s i = some t) {k nb : Nat} (hk : k < 64) (hb : ∀ p ∈ L, p.2.b ≠ nb) (val : Int) :
    LrL (L ++ [(k, ⟨nb, val, t.f, none⟩)]) io { z with k := putK z.k k (z.k k ++ [⟨nb, val, t.f, none⟩]) } { x with v := x.v ++ [Go.Proofs.Ytkkjofefjepodaa.newV k val (x.s i).id] } := by
  have ts := h.ts i t hi ht
  have := h.new hk ⟨nb, val, t.f, none⟩ hb (h.usT g hi ht) rfl
  have e : verOf z.F io (k, ⟨nb, val, t.f, none⟩) = Go.Proofs.Ytkkjofefjepodaa.newV k val (x.s i).id := by
    unfold verOf Go.Proofs.Ytkkjofefjepodaa.newV endO stopO
    simp [ts.st, ts.io, ts.id]
  rw [e] at this
  exact this
end
end Go.Proofs.Ytkkjofefjepodaa
