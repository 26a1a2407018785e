/- To lay writes, in the order of their keys, over pairs that rise, in plain lists. No dump; no condition. -/
import Derived.Test.YthojmdjcfkadoaaWrI
namespace Go.Proofs.Ythojmdjcfkadoaa
set_option linter.unusedVariables false

/-- The pairs below a key, and those behind it. -/
def lowP (c : Int) : List PrI → List PrI
  | [] => []
  | p :: l => if p.k < c then p :: lowP c l else []
def uppP (c : Int) : List PrI → List PrI
  | [] => []
  | p :: l => if p.k < c then uppP c l else if p.k = c then l else p :: l
def cellW (x : WrI) : List PrI := if x.g then [] else [⟨x.k, x.v⟩]
def mergeW : List WrI → List PrI → List PrI
  | [], l => l
  | x :: ws, l => lowP x.k l ++ cellW x ++ mergeW ws (uppP x.k l)
/-- By their keys they rise. -/
def SortW : List WrI → Prop
  | [] => True
  | x :: ws => (∀ y ∈ ws, x.k < y.k) ∧ SortW ws
/-- What is told of a key. -/
def tellW (ws : List WrI) (key : Int) (old : Option Int) : Option Int := match wlook ws key with
  | none => old
  | some x => if x.g then none else some x.v
theorem merge_nil (l : List PrI) : mergeW [] l = l := rfl
theorem merge_lt {x : WrI} {ws : List WrI} {p : PrI} {l : List PrI} (h : p.k < x.k) : mergeW (x :: ws) (p :: l) = p :: mergeW (x :: ws) l := by
  simp [mergeW, lowP, uppP, h]
theorem merge_eq {x : WrI} {ws : List WrI} {p : PrI} {l : List PrI} (h : p.k = x.k) : mergeW (x :: ws) (p :: l) = cellW x ++ mergeW ws l := by
  have h1 : ¬ x.k < x.k := by omega
  simp [mergeW, lowP, uppP, h, h1]
theorem merge_gt {x : WrI} {ws : List WrI} {p : PrI} {l : List PrI} (h : x.k < p.k) : mergeW (x :: ws) (p :: l) = cellW x ++ mergeW ws (p :: l) := by
  have h1 : ¬ p.k < x.k := by omega
  have h2 : ¬ p.k = x.k := by omega
  simp [mergeW, lowP, uppP, h1, h2]
theorem merge_no {x : WrI} {ws : List WrI} : mergeW (x :: ws) [] = cellW x ++ mergeW ws [] := by
  simp [mergeW, lowP, uppP]
/-- A pair below all writes stays ahead. -/
theorem merge_skip {ws : List WrI} {p : PrI} {l : List PrI} (h : ∀ x ∈ ws, p.k < x.k) : mergeW ws (p :: l) = p :: mergeW ws l := by
  cases ws with
  | nil => rfl
  | cons x ws => exact merge_lt (h x (List.mem_cons_self ..))
/-- As it is found: i pairs below the key, and, behind them, the key itself or one above it. -/
theorem merge_take {x : WrI} {ws : List WrI} : ∀ {l : List PrI} {i : Nat}, (∀ p ∈ l.take i, p.k < x.k) → ((∃ p, l[i]? = some p ∧ p.k = x.k) → mergeW (x :: ws) l = l.take i ++ cellW x ++ mergeW ws (l.drop (i + 1))) ∧ ((∀ p, l[i]? = some p → x.k < p.k) → mergeW (x :: ws) l = l.take i ++ cellW x ++ mergeW ws (l.drop i))
  | [], i, _ => ⟨fun ⟨p, h, _⟩ => by simp at h, fun _ => by simp [merge_no]⟩
  | p :: l, 0, _ => ⟨fun ⟨q, h, e⟩ => by simp at h; subst h; simpa using merge_eq e, fun h => by simpa using merge_gt (h p rfl)⟩
  | p :: l, i + 1, h => by
    have ih := @merge_take x ws l i (fun q hq => h q (by simp [hq]))
    have hp : p.k < x.k := h p (by simp)
    refine ⟨fun z => ?_, fun z => ?_⟩
    · rw [merge_lt hp, ih.1 (by simpa using z)]; simp
    · rw [merge_lt hp, ih.2 (by simpa using z)]; simp
theorem tellW_lt {ws : List WrI} {key : Int} {o : Option Int} (h : ∀ x ∈ ws, key < x.k) : tellW ws key o = o := by
  unfold tellW
  rw [wlook_none (fun x hx => by have := h x hx; omega)]
theorem look_app {a b : List PrI} {key : Int} : look (a ++ b) key = (look a key).or (look b key) := by
  induction a with
  | nil => simp [look]
  | cons p a ih =>
    show (if p.k = key then some p.v else look (a ++ b) key) = (if p.k = key then some p.v else look a key).or (look b key)
    split
    · rfl
    · exact ih
theorem look_cell (x : WrI) (key : Int) : look (cellW x) key = if x.k = key then (if x.g then none else some x.v) else none := by
  unfold cellW
  cases x.g <;> simp [look]
theorem rising_cell {x : WrI} {r : List PrI} (hr : Rising r) (h : ∀ q ∈ r, x.k < q.k) : Rising (cellW x ++ r) := by
  unfold cellW
  cases x.g
  · exact ⟨h, hr⟩
  · exact hr
theorem cell_len (x : WrI) : (cellW x).length ≤ 1 := by unfold cellW; split <;> simp
theorem cell_key {x : WrI} {q : PrI} (h : q ∈ cellW x) : q.k = x.k := by
  unfold cellW at h
  split at h
  · simp at h
  · simp at h; subst h; rfl
structure Merged (ws : List WrI) (l r : List PrI) : Prop where
  rise : Rising r
  tell : ∀ key, look r key = tellW ws key (look l key)
  from' : ∀ q ∈ r, q ∈ l ∨ ∃ x ∈ ws, x.k = q.k
  len : r.length ≤ l.length + ws.length
/-- A write is laid ahead of what is above it. -/
theorem Merged.cell {x : WrI} {ws : List WrI} {l l' r : List PrI} (h : Merged ws l' r) (hw : ∀ y ∈ ws, x.k < y.k) (hl : ∀ q ∈ l', x.k < q.k) (e : ∀ key, key ≠ x.k → look l key = look l' key) (hs : ∀ q ∈ l', q ∈ l) (ln : l'.length ≤ l.length) : Merged (x :: ws) l (cellW x ++ r) := by
  have up : ∀ q ∈ r, x.k < q.k := fun q hq => by
    rcases h.from' q hq with y | ⟨y, hy, e⟩
    · exact hl q y
    · have := hw y hy; omega
  refine ⟨rising_cell h.rise up, fun key => ?_, fun q hq => ?_, ?_⟩
  · rw [look_app, look_cell]
    unfold tellW wlook
    by_cases hk : x.k = key
    · rw [if_pos hk, if_pos hk, look_none (fun q hq => by have := up q hq; omega)]
      simp
    · rw [if_neg hk, if_neg hk, h.tell, e key (fun z => hk z.symm)]
      rfl
  · rcases List.mem_append.1 hq with y | y
    · exact .inr ⟨x, List.mem_cons_self .., (cell_key y).symm⟩
    · rcases h.from' q y with z | ⟨z, hz, e⟩
      · exact .inl (hs q z)
      · exact .inr ⟨z, List.mem_cons_of_mem _ hz, e⟩
  · have := h.len
    have := cell_len x
    rw [List.length_append, List.length_cons]
    omega
theorem merge_ok : ∀ (ws : List WrI) (l : List PrI), SortW ws → Rising l → Merged ws l (mergeW ws l)
  | [], l, _, hl => ⟨hl, fun _ => rfl, fun q hq => .inl hq, Nat.le_refl _⟩
  | x :: ws, [], hw, hl => by
    rw [merge_no]
    exact (merge_ok ws [] hw.2 hl).cell hw.1 (by simp) (fun _ _ => rfl) (by simp) (Nat.le_refl _)
  | x :: ws, p :: l, hw, hl => by
    rcases (by omega : p.k < x.k ∨ p.k = x.k ∨ x.k < p.k) with c | c | c
    · rw [merge_lt c]
      have ih := merge_ok (x :: ws) l hw hl.2
      refine ⟨⟨fun q hq => ?_, ih.rise⟩, fun key => ?_, fun q hq => ?_, ?_⟩
      · rcases ih.from' q hq with y | ⟨y, hy, e⟩
        · exact hl.1 q y
        · rcases List.mem_cons.1 hy with rfl | hy
          · omega
          · have := hw.1 y hy; omega
      · show (if p.k = key then some p.v else look (mergeW (x :: ws) l) key) = tellW (x :: ws) key (if p.k = key then some p.v else look l key)
        by_cases hk : p.k = key
        · rw [if_pos hk, if_pos hk, tellW_lt (fun y hy => by
            rcases List.mem_cons.1 hy with rfl | hy
            · omega
            · have := hw.1 y hy; omega)]
        · rw [if_neg hk, if_neg hk]; exact ih.tell key
      · rcases List.mem_cons.1 hq with rfl | hq
        · exact .inl (List.mem_cons_self ..)
        · rcases ih.from' q hq with y | y
          · exact .inl (List.mem_cons_of_mem _ y)
          · exact .inr y
      · have := ih.len
        simp only [List.length_cons] at this ⊢
        omega
    · rw [merge_eq c]
      exact (merge_ok ws l hw.2 hl.2).cell hw.1 (fun q hq => by have := hl.1 q hq; omega) (fun key hk => by show (if _ then _ else _) = _; rw [if_neg (by omega)]) (fun q hq => List.mem_cons_of_mem _ hq) (by simp)
    · rw [merge_gt c]
      exact (merge_ok ws (p :: l) hw.2 hl).cell hw.1 (fun q hq => by
        rcases List.mem_cons.1 hq with rfl | hq
        · exact c
        · have := hl.1 q hq; omega) (fun _ _ => rfl) (fun q hq => hq) (Nat.le_refl _)
theorem SortW.len {ws : List WrI} (h : SortW ws) {n m : Nat} (hb : ∀ x ∈ ws, (n : Int) ≤ x.k ∧ x.k < n + m) : ws.length ≤ m := by
  induction ws generalizing n m with
  | nil => simp
  | cons x ws ih =>
    have hx := hb x (List.mem_cons_self ..)
    obtain ⟨k, hk⟩ : ∃ k : Nat, x.k = k := ⟨x.k.toNat, by omega⟩
    have := @ih h.2 (k + 1) (n + m - (k + 1)) (fun y hy => by
      have := h.1 y hy
      have := hb y (List.mem_cons_of_mem _ hy)
      omega)
    simp only [List.length_cons]
    omega
theorem sortW_of : ∀ {ws : List WrI}, ws.Pairwise (fun a b => a.k ≤ b.k) → (ws.map WrI.k).Nodup → SortW ws
  | [], _, _ => trivial
  | x :: ws, h, hn => by
    rw [List.pairwise_cons] at h
    rw [List.map_cons, List.nodup_cons] at hn
    refine ⟨fun y hy => ?_, sortW_of h.2 hn.2⟩
    have h1 := h.1 y hy
    have h2 : x.k ≠ y.k := fun e => hn.1 (List.mem_map.2 ⟨y, hy, e.symm⟩)
    omega
/-- Writes that rise, and tell of each key in the range what s tells, of others nothing. -/
structure Within (s : List WrI) (lo hi : Int) (ws : List WrI) : Prop where
  sort : SortW ws
  tell : ∀ key, wlook ws key = if lo ≤ key ∧ key ≤ hi then wlook s key else none
  keys : ∀ x ∈ ws, 0 ≤ x.k ∧ x.k ≤ 63
theorem Within.len {s ws : List WrI} {lo hi : Int} (h : Within s lo hi ws) : ws.length ≤ 64 :=
  h.sort.len (n := 0) (m := 64) (fun x hx => by have := h.keys x hx; omega)
theorem Within.over {s ws : List WrI} {lo hi : Int} (h : Within s lo hi ws) {l : List PrI} (hl : Rising l) : IsOver s l lo hi (mergeW ws l) :=
  have m := merge_ok ws l h.sort hl
  ⟨m.rise, fun key => by
    rw [m.tell]
    unfold tellW Go.Proofs.Ythojmdjcfkadoaa.over
    rw [h.tell]
    by_cases c : lo ≤ key ∧ key ≤ hi
    · rw [if_pos c, if_pos c]
      cases wlook s key <;> rfl
    · rw [if_neg c, if_neg c], by have := m.len; have := h.len; omega⟩
theorem wlook_mem : ∀ {s : List WrI} {key : Int} {x : WrI}, wlook s key = some x → x ∈ s ∧ x.k = key
  | y :: s, key, x, h => by
    unfold wlook at h
    split at h
    · cases h; exact ⟨List.mem_cons_self .., by assumption⟩
    · have := wlook_mem h; exact ⟨List.mem_cons_of_mem _ this.1, this.2⟩
/-- A key that is listed: its place has the new write. -/
theorem setW_at : ∀ {s : List WrI} {i : Nat} {x y : WrI}, (s.map WrI.k).Nodup → s[i]? = some y → y.k = x.k → setW s x = s.set i x
  | a :: s, 0, x, y, _, h, e => by
    simp at h
    subst h
    unfold setW
    rw [if_pos e]
    rfl
  | a :: s, i + 1, x, y, hn, h, e => by
    rw [List.map_cons, List.nodup_cons] at hn
    have hy : s[i]? = some y := by simpa using h
    unfold setW
    rw [if_neg (fun z => hn.1 (List.mem_map.2 ⟨y, List.mem_of_getElem? hy, by rw [e, z]⟩)), setW_at hn.2 hy e]
    rfl
theorem set_keys : ∀ {s : List WrI} {i : Nat} {x y : WrI}, s[i]? = some y → y.k = x.k → (s.set i x).map WrI.k = s.map WrI.k
  | a :: s, 0, x, y, h, e => by simp at h; subst h; simp [e]
  | a :: s, i + 1, x, y, h, e => by simp [set_keys (s := s) (by simpa using h) e]
/-- Of keys that are all unlike each is told as it stands there. -/
theorem wlook_of : ∀ {s : List WrI} {x : WrI}, (s.map WrI.k).Nodup → x ∈ s → wlook s x.k = some x
  | y :: s, x, hn, h => by
    rw [List.map_cons, List.nodup_cons] at hn
    unfold wlook
    rcases List.mem_cons.1 h with rfl | h
    · rw [if_pos rfl]
    · rw [if_neg (fun e => hn.1 (List.mem_map.2 ⟨x, h, e.symm⟩))]
      exact wlook_of hn.2 h
theorem sortW_nodup : ∀ {ws : List WrI}, SortW ws → (ws.map WrI.k).Nodup
  | [], _ => by simp
  | x :: ws, h => by
    rw [List.map_cons, List.nodup_cons]
    refine ⟨fun e => ?_, sortW_nodup h.2⟩
    obtain ⟨y, hy, e⟩ := List.mem_map.1 e
    have := h.1 y hy
    omega
/-- The writes of the range, in the order of the keys, however they came into it. -/
theorem within_perm {s ws : List WrI} {lo hi : Int} (hn : (s.map WrI.k).Nodup) (hk : ∀ x ∈ s, 0 ≤ x.k ∧ x.k ≤ 63) (hp : ws.Perm (s.filter fun x => decide (lo ≤ x.k) && decide (x.k ≤ hi))) (hs : SortW ws) : Within s lo hi ws := by
  have hm : ∀ x, x ∈ ws ↔ x ∈ s ∧ lo ≤ x.k ∧ x.k ≤ hi := fun x => by
    rw [hp.mem_iff, List.mem_filter]
    simp
  refine ⟨hs, fun key => ?_, fun x hx => hk x ((hm x).1 hx).1⟩
  cases e : wlook ws key with
  | some x =>
    obtain ⟨h1, rfl⟩ := wlook_mem e
    obtain ⟨h2, h3⟩ := (hm x).1 h1
    rw [if_pos h3, wlook_of hn h2]
  | none =>
    by_cases c : lo ≤ key ∧ key ≤ hi
    · rw [if_pos c]
      cases e2 : wlook s key with
      | none => rfl
      | some x =>
        obtain ⟨h1, rfl⟩ := wlook_mem e2
        have := wlook_of (sortW_nodup hs) ((hm x).2 ⟨h1, c⟩)
        rw [e] at this
        cases this
    · rw [if_neg c]
/-- What the law itself goes through: the keys from k on. -/
def wsFrom (s : List WrI) (lo hi : Int) (k : Nat) : Nat → List WrI
  | 0 => []
  | n + 1 => (if lo ≤ (k : Int) ∧ (k : Int) ≤ hi then (wlook s k).toList else []) ++ wsFrom s lo hi (k + 1) n
theorem wsFrom_ge {s : List WrI} {lo hi : Int} : ∀ {n k : Nat} {x : WrI}, x ∈ wsFrom s lo hi k n → (k : Int) ≤ x.k ∧ x.k < k + n
  | n + 1, k, x, h => by
    unfold wsFrom at h
    rcases List.mem_append.1 h with h | h
    · split at h
      · cases e : wlook s k with
        | none => rw [e] at h; simp at h
        | some y =>
          rw [e] at h
          simp at h
          subst h
          have := (wlook_mem e).2
          omega
      · simp at h
    · have := wsFrom_ge h
      omega
theorem wsFrom_sort {s : List WrI} {lo hi : Int} : ∀ (n k : Nat), SortW (wsFrom s lo hi k n)
  | 0, k => trivial
  | n + 1, k => by
    unfold wsFrom
    have ih := wsFrom_sort (s := s) (lo := lo) (hi := hi) n (k + 1)
    split
    · cases e : wlook s k with
      | none => exact ih
      | some y =>
        exact ⟨fun x hx => by have := wsFrom_ge hx; have := (wlook_mem e).2; omega, ih⟩
    · exact ih
theorem wsFrom_tell {s : List WrI} {lo hi : Int} : ∀ (n k : Nat) (key : Int), wlook (wsFrom s lo hi k n) key = if (k : Int) ≤ key ∧ key < k + n ∧ lo ≤ key ∧ key ≤ hi then wlook s key else none
  | 0, k, key => by rw [if_neg (by omega)]; rfl
  | n + 1, k, key => by
    unfold wsFrom
    rw [wlook_app, wsFrom_tell n (k + 1) key]
    by_cases c : lo ≤ (k : Int) ∧ (k : Int) ≤ hi
    · rw [if_pos c]
      by_cases hk : key = k
      · subst hk
        rw [if_neg (by omega), if_pos (by omega), Option.or_none]
        cases e : wlook s (k : Int) with
        | none => rfl
        | some y => simp [wlook, (wlook_mem e).2]
      · have : wlook (wlook s (k : Int)).toList key = none := by
          cases e : wlook s (k : Int) with
          | none => rfl
          | some y => simp [wlook, (wlook_mem e).2, Ne.symm hk]
        rw [this, Option.none_or]
        congr 1
        apply propext
        omega
    · rw [if_neg c]
      show Option.or none _ = _
      rw [Option.none_or]
      congr 1
      apply propext
      omega
theorem within_all {s : List WrI} (lo hi : Int) (hk : ∀ x ∈ s, 0 ≤ x.k ∧ x.k ≤ 63) : Within s lo hi (wsFrom s lo hi 0 64) := by
  refine ⟨wsFrom_sort 64 0, fun key => ?_, fun x hx => by have := wsFrom_ge hx; omega⟩
  rw [wsFrom_tell]
  by_cases c : lo ≤ key ∧ key ≤ hi
  · rw [if_pos c]
    by_cases d : 0 ≤ key ∧ key ≤ 63
    · rw [if_pos (by omega)]
    · rw [if_neg (by omega)]
      cases e : wlook s key with
      | none => rfl
      | some x => have := wlook_mem e; have := hk x this.1; omega
  · rw [if_neg c, if_neg (by omega)]
end Go.Proofs.Ythojmdjcfkadoaa
