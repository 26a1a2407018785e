/- A Tower's words in plain lists: the place of the next key in each level, the gap of a key, what a look goes by, what becomes of the rows behind a Put and a Drop. No dump; no condition. -/
import Derived.Test.YtopnhkogapidhaaTwI
namespace Go.Proofs.Ytopnhkogapidhaa
open Go.ChangeShapes Go.WideShapes Go.ChangeAt Go.RowKit
set_option linter.unusedVariables false

/-- Of the keys from p on the first that is this high stands at place n (one above its number); 0: there is none. -/
def IsNx (th : Nat → Nat) (h p n : Nat) : Prop :=
  (n = 0 ∧ ∀ j, p ≤ j → j < 64 → th j < h) ∨ ∃ j, n = j + 1 ∧ p ≤ j ∧ j < 64 ∧ h ≤ th j ∧ ∀ i, p ≤ i → i < j → th i < h
/-- The words of a level lead from key to key. -/
def RowT (th : Nat → Nat) (l : Nat) (zs : List Int) : Prop :=
  ∀ p, p ≤ 64 → (p = 0 ∨ l + 1 ≤ th (p - 1)) → ∃ n : Nat, zs.getD (l * 65 + p) 0 = (n : Int) ∧ IsNx th (l + 1) p n
/-- Where a key belongs in a level. -/
structure Gap (th : Nat → Nat) (key : Int) (h b a : Nat) : Prop where
  mem : b = 0 ∨ (h ≤ th (b - 1) ∧ (b : Int) - 1 < key)
  b64 : b ≤ 64
  nx : IsNx th h b a
  stop : a = 0 ∨ key ≤ (a : Int) - 1
section
variable {th th' : Nat → Nat} {h p n b a l : Nat} {key : Int} {zs : List Int}
theorem IsNx.le (hn : IsNx th h p n) : n ≤ 64 := by
  rcases hn with ⟨e, _⟩ | ⟨j, e, _, h2, _⟩ <;> omega
theorem IsNx.step (hn : IsNx th h p n) (h0 : n ≠ 0) : p < n ∧ n ≤ 64 ∧ h ≤ th (n - 1) ∧ ∀ i, p ≤ i → i < n - 1 → th i < h := by
  rcases hn with ⟨e, _⟩ | ⟨j, e, h1, h2, h3, h4⟩
  · exact absurd e h0
  · subst e; exact ⟨by omega, by omega, by simpa using h3, fun i hi hj => h4 i hi (by omega)⟩
theorem IsNx.none (hn : IsNx th h p 0) : ∀ j, p ≤ j → j < 64 → th j < h := by
  rcases hn with ⟨_, e⟩ | ⟨j, e, _⟩
  · exact e
  · omega
theorem IsNx.same (hn : IsNx th h p n) (e : ∀ j, p ≤ j → j < 64 → (h ≤ th' j ↔ h ≤ th j)) : IsNx th' h p n := by
  rcases hn with ⟨e0, h1⟩ | ⟨j, e0, h1, h2, h3, h4⟩
  · exact .inl ⟨e0, fun j hp hj => by have := h1 j hp hj; have := e j hp hj; omega⟩
  · exact .inr ⟨j, e0, h1, h2, (e j h1 h2).2 h3, fun i hi hj => by have := h4 i hi hj; have := e i hi (by omega); omega⟩
theorem Gap.le (g : Gap th key h b a) : a ≤ 64 := g.nx.le
theorem Gap.is (g : Gap th key h b a) (h0 : 0 < h) : (a ≠ 0 ∧ (a : Int) - 1 = key) ↔ (0 ≤ key ∧ key ≤ 63 ∧ h ≤ th key.toNat) := by
  constructor
  · rintro ⟨h1, h2⟩
    obtain ⟨q1, q2, q3, _⟩ := g.nx.step h1
    have : a - 1 = key.toNat := by omega
    exact ⟨by omega, by omega, this ▸ q3⟩
  · rintro ⟨h1, h2, h3⟩
    have hb : b ≤ key.toNat := by have := g.mem; omega
    have ha : a ≠ 0 := by
      intro e
      have := (e ▸ g.nx).none key.toNat hb (by omega)
      omega
    obtain ⟨q1, q2, q3, q4⟩ := g.nx.step ha
    have := g.stop
    refine ⟨ha, ?_⟩
    rcases (by omega : (a : Int) - 1 = key ∨ key.toNat < a - 1) with e | e
    · exact e
    · have := q4 key.toNat hb e; omega
/-- The row of a level of a Tower whose key has been put: from the gap of the key. -/
theorem RowT.put (r : RowT th l zs) (hz : zs.length = 260) (hl : l < 4) {k : Nat} (hk : k < 64) (g : Gap th (k : Int) (l + 1) b a) (h0 : th k = 0) (e : ∀ j, j ≠ k → th' j = th j) (h1 : l + 1 ≤ th' k) :
    RowT th' l ((zs.set (l * 65 + (k + 1)) (a : Int)).set (l * 65 + b) ((k + 1 : Nat) : Int)) := by
  have gm := g.mem
  have gs := g.stop
  have b64 := g.b64
  intro p hp hm
  simp only [List.getD_eq_getElem?_getD, List.getElem?_set, List.length_set]
  by_cases pb : p = b
  · subst pb
    refine ⟨k + 1, by rw [if_pos rfl, if_pos (by omega)]; rfl, .inr ⟨k, rfl, by omega, hk, h1, fun i hi hj => ?_⟩⟩
    rw [e i (by omega)]
    by_cases ha : a = 0
    · exact (ha ▸ g.nx).none i hi (by omega)
    · exact (g.nx.step ha).2.2.2 i hi (by omega)
  · rw [if_neg (by omega)]
    by_cases pk : p = k + 1
    · subst pk
      refine ⟨a, by rw [if_pos rfl, if_pos (by omega)]; rfl, ?_⟩
      by_cases ha : a = 0
      · refine .inl ⟨ha, fun j hp hj => ?_⟩
        rw [e j (by omega)]
        exact (ha ▸ g.nx).none j (by omega) hj
      · obtain ⟨q1, q2, q3, q4⟩ := g.nx.step ha
        have : a - 1 ≠ k := fun e => by rw [e, h0] at q3; omega
        refine .inr ⟨a - 1, by omega, by omega, by omega, by rw [e _ this]; exact q3, fun i hi hj => ?_⟩
        rw [e i (by omega)]
        exact q4 i (by omega) hj
    · rw [if_neg (by omega), ← List.getD_eq_getElem?_getD]
      have hm' : p = 0 ∨ l + 1 ≤ th (p - 1) := by
        rcases hm with hm | hm
        · exact .inl hm
        · by_cases p0 : p = 0
          · exact .inl p0
          · rw [e _ (by omega)] at hm; exact .inr hm
      obtain ⟨n, en, nx⟩ := r p hp hm'
      refine ⟨n, en, ?_⟩
      by_cases hpk : k < p
      · exact nx.same fun j hj _ => by rw [e j (by omega)]
      · rcases (by omega : p < b ∨ b < p) with hpb | hpb
        · have gm' : l + 1 ≤ th (b - 1) := by omega
          have n0 : n ≠ 0 := fun e0 => by have := (e0 ▸ nx).none (b - 1) (by omega) (by omega); omega
          obtain ⟨q1, q2, q3, q4⟩ := nx.step n0
          have : n - 1 ≤ b - 1 := by
            rcases (by omega : n - 1 ≤ b - 1 ∨ b - 1 < n - 1) with x | x
            · exact x
            · have := q4 (b - 1) (by omega) x; omega
          refine .inr ⟨n - 1, by omega, by omega, by omega, by rw [e _ (by omega)]; exact q3, fun i hi hj => ?_⟩
          rw [e i (by omega)]
          exact q4 i hi hj
        · exfalso
          have hm2 : l + 1 ≤ th (p - 1) := by omega
          by_cases ha : a = 0
          · have := (ha ▸ g.nx).none (p - 1) (by omega) (by omega); omega
          · have := (g.nx.step ha).2.2.2 (p - 1) (by omega) (by omega); omega
/-- The row of a level out of which a key has been dropped. -/
theorem RowT.drop (r : RowT th l zs) (hz : zs.length = 260) (hl : l < 4) {k : Nat} (hk : k < 64) (g : Gap th (k : Int) (l + 1) b (k + 1)) (nx0 : IsNx th (l + 1) (k + 1) n) (e : ∀ j, j ≠ k → th' j = th j) (h1 : th' k = 0) :
    RowT th' l (zs.set (l * 65 + b) (n : Int)) := by
  have gm := g.mem
  have b64 := g.b64
  obtain ⟨g1, g2, g3, g4⟩ := g.nx.step (by omega)
  simp only [Nat.add_sub_cancel] at g3 g4
  intro p hp hm
  simp only [List.getD_eq_getElem?_getD, List.getElem?_set]
  by_cases pb : p = b
  · subst pb
    refine ⟨n, by rw [if_pos rfl, if_pos (by omega)]; rfl, ?_⟩
    have low : ∀ i, p ≤ i → i ≤ k → th' i < l + 1 := fun i hi hj => by
      by_cases ek : i = k
      · subst ek; omega
      · rw [e i ek]; exact g4 i hi (by omega)
    by_cases n0 : n = 0
    · refine .inl ⟨n0, fun j hj hj2 => ?_⟩
      rcases (by omega : j ≤ k ∨ k + 1 ≤ j) with x | x
      · exact low j hj x
      · rw [e j (by omega)]; exact (n0 ▸ nx0).none j x hj2
    · obtain ⟨q1, q2, q3, q4⟩ := nx0.step n0
      refine .inr ⟨n - 1, by omega, by omega, by omega, by rw [e _ (by omega)]; exact q3, fun i hi hj => ?_⟩
      rcases (by omega : i ≤ k ∨ k + 1 ≤ i) with x | x
      · exact low i hi x
      · rw [e i (by omega)]; exact q4 i x hj
  · rw [if_neg (by omega), ← List.getD_eq_getElem?_getD]
    have hm' : p = 0 ∨ (l + 1 ≤ th (p - 1) ∧ p - 1 ≠ k) := by
      rcases hm with hm | hm
      · exact .inl hm
      · have : p - 1 ≠ k := fun ek => by rw [ek, h1] at hm; omega
        rw [e _ this] at hm; exact .inr ⟨hm, this⟩
    obtain ⟨n', en, nx⟩ := r p hp (hm'.imp_right (·.1))
    refine ⟨n', en, ?_⟩
    have ne : n' ≠ k + 1 := by
      rintro rfl
      obtain ⟨q1, q2, q3, q4⟩ := nx.step (by omega)
      rcases (by omega : p < b ∨ b < p) with hpb | hpb
      · have := q4 (b - 1) (by omega) (by omega); omega
      · have := g4 (p - 1) (by omega) (by omega); omega
    by_cases n0 : n' = 0
    · refine .inl ⟨n0, fun j hj hj2 => ?_⟩
      by_cases ek : j = k
      · subst ek; omega
      · rw [e j ek]; exact (n0 ▸ nx).none j hj hj2
    · obtain ⟨q1, q2, q3, q4⟩ := nx.step n0
      refine .inr ⟨n' - 1, by omega, by omega, by omega, by rw [e _ (by omega)]; exact q3, fun i hi hj => ?_⟩
      by_cases ek : i = k
      · subst ek; omega
      · rw [e i ek]; exact q4 i hi hj
/-- A level that the key is not in, and was not. -/
theorem RowT.same (r : RowT th l zs) {k : Nat} (e : ∀ j, j ≠ k → th' j = th j) (h0 : th k < l + 1) (h1 : th' k < l + 1) : RowT th' l zs := by
  have ee : ∀ j, l + 1 ≤ th' j ↔ l + 1 ≤ th j := fun j => by
    by_cases ek : j = k
    · subst ek; omega
    · rw [e j ek]
  intro p hp hm
  obtain ⟨n, en, nx⟩ := r p hp (hm.imp_right (fun x => (ee _).1 x))
  exact ⟨n, en, nx.same fun j _ _ => ee j⟩
/-- Another level's words. -/
theorem RowT.far (r : RowT th l zs) (hl : l < 4) {l2 q : Nat} (h2 : l2 ≠ l) (hq : q ≤ 64) (x : Int) : RowT th l (zs.set (l2 * 65 + q) x) := by
  intro p hp hm
  obtain ⟨n, en, nx⟩ := r p hp hm
  refine ⟨n, ?_, nx⟩
  rw [← en]
  simp only [List.getD_eq_getElem?_getD, List.getElem?_set]
  rw [if_neg (by omega)]
/-- What a look goes by: keys that do not count. -/
theorem stp_skip {h : Int} {s : Int × Int} {m : Nat} : ∀ n, m ≤ n → (∀ j : Nat, m ≤ j → j < n → ¬ (h ≤ (th j : Int) ∧ (j : Int) < key)) → stpK th key h s n = stpK th key h s m
  | 0, hm, _ => by rw [show m = 0 by omega]
  | n + 1, hm, hn => by
    rcases (by omega : m = n + 1 ∨ m ≤ n) with rfl | x
    · rfl
    · rw [stpK, if_neg, stp_skip n x (fun j h1 h2 => hn j h1 (by omega))]
      rintro ⟨h1, h2, _⟩
      exact hn n x (by omega) ⟨h1, h2⟩
theorem stp_low {h : Int} {s : Int × Int} : ∀ m : Nat, (m : Int) ≤ s.2 + 1 → stpK th key h s m = s
  | 0, _ => rfl
  | m + 1, hm => by
    have ih := stp_low (h := h) (s := s) m (by omega)
    rw [stpK, if_neg, ih]
    rw [ih]
    omega
/-- One key further. -/
theorem stp_on {s : Int × Int} {k : Int} (hs : stpK th key (h : Int) s p = (k, (p : Int) - 1)) (nx : IsNx th h p n) (h0 : n ≠ 0) (hk : (n : Int) - 1 < key) : stpK th key (h : Int) s n = (k + 1, (n : Int) - 1) := by
  obtain ⟨q1, q2, q3, q4⟩ := nx.step h0
  obtain ⟨j, rfl⟩ : ∃ j, n = j + 1 := ⟨n - 1, by omega⟩
  simp only [Nat.add_sub_cancel] at q3 q4
  have e := stp_skip (th := th) (key := key) (h := (h : Int)) (s := s) (m := p) j (by omega) (fun i h1 h2 x => by have := q4 i h1 h2; omega)
  rw [stpK, e, hs, if_pos ⟨by omega, by omega, by show (p : Int) - 1 < j; omega⟩]
  rw [show ((j + 1 : Nat) : Int) - 1 = (j : Int) by omega]
theorem stp_end {s : Int × Int} {k : Int} (hs : stpK th key (h : Int) s p = (k, (p : Int) - 1)) (hp : p ≤ 64) (nx : IsNx th h p n) (hk : n = 0 ∨ key ≤ (n : Int) - 1) : stpK th key (h : Int) s 64 = (k, (p : Int) - 1) := by
  rw [← hs]
  refine stp_skip 64 hp fun j h1 h2 x => ?_
  by_cases h0 : n = 0
  · have := (h0 ▸ nx).none j h1 h2; omega
  · obtain ⟨q1, q2, q3, q4⟩ := nx.step h0
    rcases (by omega : j < n - 1 ∨ n - 1 ≤ j) with y | y
    · have := q4 j h1 y; omega
    · omega
/-- The keys below m of this height, from lo to hi, rising. -/
def segT (th : Nat → Nat) (h : Nat) (lo hi : Int) : Nat → List Int
  | 0 => []
  | m + 1 => if h ≤ th m ∧ lo ≤ m ∧ (m : Int) ≤ hi then segT th h lo hi m ++ [(m : Int)] else segT th h lo hi m
theorem seg_rng (lo hi : Int) : ∀ m, segT th 1 lo hi m = rngT th lo hi m
  | 0 => rfl
  | m + 1 => by
    rw [segT, rngT, seg_rng lo hi m]
    by_cases x : 1 ≤ th m ∧ lo ≤ (m : Int) ∧ (m : Int) ≤ hi
    · rw [if_pos x, if_pos ⟨by omega, x.2⟩]
    · rw [if_neg x, if_neg (fun y => x ⟨by omega, y.2⟩)]
theorem seg_lvl (h : Nat) : ∀ m, m ≤ 64 → segT th h 0 63 m = lvl th (h : Int) m
  | 0, _ => rfl
  | m + 1, hm => by
    rw [segT, lvl, seg_lvl h m (by omega)]
    by_cases x : h ≤ th m
    · rw [if_pos ⟨x, by omega, by omega⟩, if_pos (by omega)]
    · rw [if_neg (fun y => x y.1), if_neg (by omega)]
theorem seg_len (h : Nat) (lo hi : Int) : ∀ m, (segT th h lo hi m).length ≤ m
  | 0 => by simp [segT]
  | m + 1 => by
    have := seg_len h lo hi m
    unfold segT
    split
    · simp; omega
    · omega
theorem seg_skip {h : Nat} {lo hi : Int} {m : Nat} : ∀ n, m ≤ n → (∀ j : Nat, m ≤ j → j < n → ¬ (h ≤ th j ∧ lo ≤ (j : Int) ∧ (j : Int) ≤ hi)) → segT th h lo hi n = segT th h lo hi m
  | 0, hm, _ => by rw [show m = 0 by omega]
  | n + 1, hm, hn => by
    rcases (by omega : m = n + 1 ∨ m ≤ n) with rfl | x
    · rfl
    · rw [segT, if_neg (hn n x (by omega)), seg_skip n x (fun j h1 h2 => hn j h1 (by omega))]
theorem seg_low {h : Nat} {lo hi : Int} (m : Nat) (hm : (m : Int) - 1 < lo) : segT th h lo hi m = [] := by
  rw [seg_skip (m := 0) m (Nat.zero_le _) (fun j _ h2 x => by omega)]
  rfl
theorem seg_on {lo hi : Int} (nx : IsNx th h p n) (h0 : n ≠ 0) (hl : lo ≤ (n : Int) - 1) (hh : (n : Int) - 1 ≤ hi) : segT th h lo hi n = segT th h lo hi p ++ [(n : Int) - 1] := by
  obtain ⟨q1, q2, q3, q4⟩ := nx.step h0
  obtain ⟨j, rfl⟩ : ∃ j, n = j + 1 := ⟨n - 1, by omega⟩
  simp only [Nat.add_sub_cancel] at q3 q4
  rw [segT, if_pos ⟨q3, by omega, by omega⟩, seg_skip (m := p) j (by omega) (fun i h1 h2 x => by have := q4 i h1 h2; omega), show ((j + 1 : Nat) : Int) - 1 = (j : Int) by omega]
theorem seg_end {lo hi : Int} (hp : p ≤ 64) (nx : IsNx th h p n) (hk : n = 0 ∨ hi < (n : Int) - 1) : segT th h lo hi 64 = segT th h lo hi p := by
  refine seg_skip 64 hp fun j h1 h2 x => ?_
  by_cases h0 : n = 0
  · have := (h0 ▸ nx).none j h1 h2; omega
  · obtain ⟨q1, q2, q3, q4⟩ := nx.step h0
    rcases (by omega : j < n - 1 ∨ n - 1 ≤ j) with y | y
    · have := q4 j h1 y; omega
    · omega
theorem rowT_new (l : Nat) (hl : l < 4) : RowT (fun _ => 0) l (List.replicate 260 0) := by
  intro p hp hm
  refine ⟨0, ?_, .inl ⟨rfl, fun _ _ _ => Nat.succ_pos _⟩⟩
  rw [List.getD_eq_getElem?_getD, List.getElem?_replicate]
  split <;> simp
end
end Go.Proofs.Ytopnhkogapidhaa
