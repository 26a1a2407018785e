/- Several texts, one behind the other: ChI, ChAt, Slc, HsI, RefB. -/
import Derived.Test.YtmfpjnlplimkeaaGreatLawHashPlaysZag
import Derived.Test.YtmfpjnlplimkeaaGreatLawHashPlaysZae
/- A Chain's links in a Store in plain lists: they live, and each is led to the next; behind a Make, a Free of another one, a put ahead, a cut. No dump; no condition beyond the Store's own. -/
namespace Go.Proofs.YtmfpjnlplimkeaaGreat
open Go.ChangeShapes Go.WideShapes Go.ChangeAt Go.RowKit
set_option linter.unusedVariables false

/-- The links l, newest first, are those of versions that live, each led to the next one. -/
structure Linked (s : RS) (l : List Int) : Prop where
  live : ∀ x ∈ l, s.s.live x = true
  nd : l.Nodup
  next : ∀ i, i < l.length → (s.ver (slotOf (l.getD i 0))).n = l.getD (i + 1) 0
def pushI (t : St) (l : List Int) (x : Int) : Bool × List Int := if t.live x = true ∧ x ∉ l then (true, x :: l) else (false, l)
def cutI (l : List Int) (x : Int) : Bool × List Int := if x ∈ l then (true, l.erase x) else (false, l)
section
variable {s s' : RS} {l : List Int}
theorem getD_mem {l : List Int} {i : Nat} (h : i < l.length) : l.getD i 0 ∈ l := by
  rw [List.getD_eq_getElem?_getD, List.getElem?_eq_getElem h]
  exact List.getElem_mem h
theorem slot_inj {s : St} {x y : Int} (hx : s.live x = true) (hy : s.live y = true) (h : slotOf x = slotOf y) : x = y := by
  rw [(slot_live hx).2.2, (slot_live hy).2.2, h]
theorem getD_inj {l : List Int} (hn : l.Nodup) : ∀ {i j : Nat}, i < l.length → j < l.length → l.getD i 0 = l.getD j 0 → i = j := by
  induction l with
  | nil => intro i j h; simp at h
  | cons a l ih =>
    rw [List.nodup_cons] at hn
    intro i j hi hj h
    cases i with
    | zero =>
      cases j with
      | zero => rfl
      | succ j =>
        rw [List.getD_cons_zero, List.getD_cons_succ] at h
        exact absurd (h ▸ getD_mem (by simpa using hj)) hn.1
    | succ i =>
      cases j with
      | zero =>
        rw [List.getD_cons_zero, List.getD_cons_succ] at h
        exact absurd (h ▸ getD_mem (by simpa using hi)) hn.1
      | succ j =>
        rw [List.getD_cons_succ, List.getD_cons_succ] at h
        rw [ih hn.2 (by simpa using hi) (by simpa using hj) h]
theorem Linked.nil (s : RS) : Linked s [] := ⟨fun x h => by simp at h, by simp, fun i h => by simp at h⟩
theorem Linked.tick (h : Linked s l) : Linked s.tick l := ⟨h.live, h.nd, h.next⟩
/-- Another version is turned, whatever is turned of it. -/
theorem Linked.same (h : Linked s l) (hl : ∀ x ∈ l, s'.s.live x = true) (hv : ∀ x ∈ l, s'.ver (slotOf x) = s.ver (slotOf x)) : Linked s' l :=
  ⟨hl, h.nd, fun i hi => by rw [hv _ (getD_mem hi)]; exact h.next i hi⟩
theorem Linked.put_other (h : Linked s l) (ok : ROk s) {x : Int} (hx : s.s.live x = true) (hn : x ∉ l) (y : Ver) : Linked (s.put (slotOf x) y) l := by
  refine h.same h.live fun z hz => ?_
  rw [RS.ver_put s _ _ y (by rw [ok.l]; exact (slot_live hx).1), if_neg (fun e => hn (by rw [slot_inj hx (h.live z hz) e]; exact hz))]
theorem Linked.push (h : Linked s l) (ok : ROk s) {x : Int} (hx : s.s.live x = true) (hn : x ∉ l) : Linked (s.put (slotOf x) { s.ver (slotOf x) with n := l.headD 0 }) (x :: l) := by
  have h2 := h.put_other ok hx hn { s.ver (slotOf x) with n := l.headD 0 }
  refine ⟨fun z hz => ?_, List.nodup_cons.2 ⟨hn, h.nd⟩, fun i hi => ?_⟩
  · rcases List.mem_cons.1 hz with rfl | hz
    · exact hx
    · exact h2.live z hz
  · cases i with
    | zero =>
      rw [List.getD_cons_zero, RS.ver_put s _ _ _ (by rw [ok.l]; exact (slot_live hx).1), if_pos rfl]
      cases l <;> rfl
    | succ i =>
      rw [List.getD_cons_succ, List.getD_cons_succ]
      exact h2.next i (by simpa using hi)
theorem Linked.cut_first {x : Int} (h : Linked s (x :: l)) : Linked s l :=
  ⟨fun z hz => h.live z (List.mem_cons_of_mem _ hz), (List.nodup_cons.1 h.nd).2, fun i hi => by
    have := h.next (i + 1) (by simpa using hi)
    rwa [List.getD_cons_succ, List.getD_cons_succ] at this⟩
theorem getD_erase (l : List Int) (i j : Nat) : (l.eraseIdx i).getD j 0 = if j < i then l.getD j 0 else l.getD (j + 1) 0 := by
  rw [List.getD_eq_getElem?_getD, List.getElem?_eraseIdx]
  split
  · rw [List.getD_eq_getElem?_getD]
  · rw [List.getD_eq_getElem?_getD]
theorem Linked.cut (h : Linked s l) (ok : ROk s) (i : Nat) (hi : i + 1 < l.length) : Linked (s.put (slotOf (l.getD i 0)) { s.ver (slotOf (l.getD i 0)) with n := l.getD (i + 2) 0 }) (l.eraseIdx (i + 1)) := by
  have hx := h.live _ (getD_mem (l := l) (i := i) (by omega))
  have hlen : (l.eraseIdx (i + 1)).length = l.length - 1 := by rw [List.length_eraseIdx_of_lt hi]
  refine ⟨fun z hz => h.live z (List.mem_of_mem_eraseIdx hz), h.nd.sublist (List.eraseIdx_sublist _ _), fun j hj => ?_⟩
  rw [hlen] at hj
  have other : ∀ m, m < l.length → m ≠ i → ((s.put (slotOf (l.getD i 0)) { s.ver (slotOf (l.getD i 0)) with n := l.getD (i + 2) 0 }).ver (slotOf (l.getD m 0))).n = l.getD (m + 1) 0 := by
    intro m hm hne
    rw [RS.ver_put s _ _ _ (by rw [ok.l]; exact (slot_live hx).1), if_neg (fun e => hne (getD_inj h.nd hm (by omega) (slot_inj (h.live _ (getD_mem hm)) hx e.symm)))]
    exact h.next m hm
  rw [getD_erase, getD_erase]
  by_cases h1 : j < i
  · rw [if_pos (by omega), if_pos (by omega)]
    exact other j (by omega) (by omega)
  · by_cases h2 : j = i
    · subst h2
      rw [if_pos (by omega), if_neg (by omega), RS.ver_put s _ _ _ (by rw [ok.l]; exact (slot_live hx).1), if_pos rfl]
    · rw [if_neg (by omega), if_neg (by omega)]
      exact other (j + 1) (by omega) (by omega)
theorem erase_idx {l : List Int} (hn : l.Nodup) : ∀ {i : Nat}, i < l.length → l.erase (l.getD i 0) = l.eraseIdx i := by
  induction l with
  | nil => intro i h; simp at h
  | cons a l ih =>
    rw [List.nodup_cons] at hn
    intro i hi
    cases i with
    | zero => simp
    | succ i =>
      have hi : i < l.length := by simpa using hi
      rw [List.getD_cons_succ, List.erase_cons_tail (by intro e; exact hn.1 (by have : a = l.getD i 0 := (by simpa using e); rw [this]; exact getD_mem hi)), ih hn.2 hi]
      rfl
theorem took_live {st : St} (ok : Ok st) {i : Nat} (h : st.top = some i) {x : Int} (hx : st.live x = true) : st.took.live x = true ∧ slotOf x ≠ i := by
  obtain ⟨h1, h2, _, e1, e2, _⟩ := ok_took ok h
  obtain ⟨hl, ht, hk⟩ := slot_live hx
  have hne : slotOf x ≠ i := fun e => by rw [e, h2] at ht; cases ht
  have a1 : st.took.tk (slotOf x) = st.tk (slotOf x) := by
    simp only [St.tk, e2, List.getD_eq_getElem?_getD, List.getElem?_set, Ne.symm hne, if_false]
  have a2 : st.took.link (slotOf x) = st.link (slotOf x) := by unfold St.link St.tag; rw [e1]
  refine ⟨?_, hne⟩
  have h3 := hx
  unfold slotOf at a1 a2
  unfold St.live at h3 ⊢
  rw [e1, a1, a2]
  exact h3
theorem Linked.make (h : Linked s l) (ok : ROk s) (k v b e : Int) : Linked (s.make k v b e).2.2 l := by
  unfold RS.make
  split
  · exact h.tick
  · cases ht : s.s.top with
    | none => exact h.tick
    | some i =>
      refine h.same (fun x hx => (took_live ok.p ht (h.live x hx)).1) fun x hx => ?_
      show (s.r.set i _).getD (slotOf x) _ = _
      rw [RS.ver_set s i _ _ (by rw [ok.l]; exact (ok_took ok.p ht).1), if_neg (fun e => (took_live ok.p ht (h.live x hx)).2 e.symm)]
theorem Linked.free (h : Linked s l) {x : Int} (hn : x ∉ l) : Linked (s.free x).2 l := by
  unfold RS.free
  split
  · rename_i hx
    refine h.same (fun z hz => ?_) fun z hz => rfl
    show (s.s.gave (slotOf x)).live z = true
    rw [gave_live_other _ _ _ (fun e => hn (by rw [← slot_inj (h.live z hz) hx e]; exact hz))]
    exact h.live z hz
  · exact h.tick
/-- What is told of a link of the Chain: it is there, and which is the next one. -/
theorem Linked.get (h : Linked s l) (i : Nat) (hi : i < l.length) : ∃ y : Ver, s.get (l.getD i 0) = .tuple #[verV y, .bool true] ∧ y.n = l.getD (i + 1) 0 := by
  refine ⟨s.ver (slotOf (l.getD i 0)), ?_, h.next i hi⟩
  unfold RS.get
  rw [if_pos (h.live _ (getD_mem hi))]
theorem zero_dead (t : St) : t.live 0 = false := by
  cases h : t.live 0 with
  | false => rfl
  | true =>
    obtain ⟨i, _, _, _, hm⟩ := (live_iff _ _).1 h
    omega
end
end Go.Proofs.YtmfpjnlplimkeaaGreat
/- Where a word stands in a list of one's own (vinculumlaw9.at): its first place, or nowhere. No condition but the list's length of 100,000 at most. -/
namespace Go.Proofs.YtmfpjnlplimkeaaGreat
open Go.ChangeShapes Go.WideShapes Go.ChangeAt Go.RowKit
set_option linter.unusedVariables false

/-- It stands there first. -/
structure FirstAt (l : List Int) (x : Int) (i : Nat) : Prop where
  lt : i < l.length
  eq : l.getD i 0 = x
  no : ∀ m, m < i → l.getD m 0 ≠ x
theorem first_or (x : Int) : ∀ l : List Int, x ∉ l ∨ ∃ i, FirstAt l x i
  | [] => .inl (by simp)
  | a :: l => by
    by_cases h : a = x
    · exact .inr ⟨0, by simp, by simpa using h, fun m hm => absurd hm (Nat.not_lt_zero m)⟩
    · rcases first_or x l with h1 | ⟨i, h1⟩
      · exact .inl (by simp only [List.mem_cons, not_or]; exact ⟨fun e => h e.symm, h1⟩)
      · refine .inr ⟨i + 1, by have := h1.lt; simp; omega, by rw [List.getD_cons_succ]; exact h1.eq, fun m hm => ?_⟩
        cases m with
        | zero => rw [List.getD_cons_zero]; exact h
        | succ m => rw [List.getD_cons_succ]; exact h1.no m (by omega)
theorem FirstAt.mem {l : List Int} {x : Int} {i : Nat} (h : FirstAt l x i) : x ∈ l := by rw [← h.eq]; exact getD_mem h.lt
end Go.Proofs.YtmfpjnlplimkeaaGreat
/- slices.Index and slices.Contains of a list of words of the call's own: the first place of a word, or -1; whether it is there. Condition: the list has 100,000 elements at most. -/
namespace Go.Proofs.YtmfpjnlplimkeaaGreat
open Go.ChangeShapes Go.WideShapes Go.ChangeAt Go.RowKit
set_option linter.unusedVariables false

theorem index_loop {B : Nat} {w : World} {v : Value} {l : List Int} (o : OwnU B w v l) (hl : l.length ≤ 100000) (x r : Int) (hr : (x ∉ l ∧ r = -1) ∨ ∃ i : Nat, FirstAt l x i ∧ r = i) :
    Calls Tryz.prog 37 #[v, .int .u64 x] w fun e w' => e = .returned (.int .i64 r) ∧ w = w' := by
  obtain ⟨A, c, rfl, hA0, hA1⟩ : ∃ A c, v = .slice A l.length c ∧ (A = none → l = []) ∧ ∀ ad, A = some ad → ∃ g, ad = ⟨g, 0, none⟩ := by
    rcases o.shape with ⟨h1, h2⟩ | ⟨g, c, h1, _⟩
    · exact ⟨none, 0, by rw [h1, h2]; rfl, fun _ => h2, fun ad h => by cases h⟩
    · exact ⟨_, c, h1, fun h => (by cases h), fun ad h => by cases h; exact ⟨g, rfl⟩⟩
  go_enter Tryz.func37, Tryz.ntmps37
  go_wp2
  go_loop [8] (fun q => ∃ j : Nat, j ≤ l.length ∧ q = .int .i64 j ∧ ∀ m, m < j → l.getD m 0 ≠ x) (fun q => l.length - (intOf q).toNat)
  case atStart => exact ⟨0, Nat.zero_le _, rfl, fun m hm => absurd hm (Nat.not_lt_zero m)⟩
  case round =>
    obtain ⟨j, hj, rfl, hno⟩ := hrel
    by_cases hlt : j < l.length
    · cases A with
      | none => rw [hA0 rfl] at hlt; exact absurd hlt (Nat.not_lt_zero j)
      | some ad =>
        obtain ⟨g, rfl⟩ := hA1 _ rfl
        have cj := OwnU.cell o j hlt
        obtain ⟨y, ey⟩ : ∃ y, l.getD j 0 = y := ⟨_, rfl⟩
        rw [ey] at cj
        have wk : IntKind.i64.wrap ((j : Int) + 1) = (j : Int) + 1 := IntWalk.i64_in _ (by omega)
        by_cases hy : x = y
        · subst hy
          have er : r = j := by
            rcases hr with ⟨h1, _⟩ | ⟨i, h1, h2⟩
            · exact absurd (by rw [← ey]; exact getD_mem hlt) h1
            · rcases Nat.lt_trichotomy i j with h | h | h
              · exact absurd h1.eq (hno i h)
              · rw [h2, h]
              · exact absurd ey (h1.no j h)
          subst er
          clear hr hno ey hA0 hA1
          go_wp2
          go_ret
          exact ⟨rfl, rfl⟩
        · have q0 : (x == y) = false := by simpa using hy
          have hno2 : ∀ m, m < j + 1 → l.getD m 0 ≠ x := fun m hm => by
            by_cases e : m = j
            · subst e; rw [ey]; exact fun z => hy z.symm
            · exact hno m (by omega)
          have HN := Lib.hid hno2
          clear hr hno ey hA0 hA1 hno2 hy
          go_wp2
          go_round
          case rel => exact ⟨j + 1, by omega, by go_num, HN.out⟩
          case measure => simp [intOf]; omega
    · obtain rfl : j = l.length := by omega
      have er : r = -1 := by
        rcases hr with ⟨_, h⟩ | ⟨i, h1, _⟩
        · exact h
        · exact absurd h1.eq (hno i h1.lt)
      subst er
      clear hr hno hA0 hA1
      go_wp2
      go_ret
      exact ⟨rfl, rfl⟩
theorem contains_no {B : Nat} {w : World} {v : Value} {l : List Int} (o : OwnU B w v l) (hl : l.length ≤ 100000) (x : Int) (h : x ∉ l) :
    Calls Tryz.prog 31 #[v, .int .u64 x] w fun e w' => e = .returned (.bool false) ∧ w = w' := by
  have hi := index_loop o hl x _ (.inl ⟨h, rfl⟩)
  go_enter Tryz.func31, Tryz.ntmps31
  go_wp2_with fail
  refine hi.mono ?_
  rintro e w' ⟨rfl, rfl⟩
  go_wp2
  go_ret
  exact ⟨rfl, rfl⟩
theorem contains_yes {B : Nat} {w : World} {v : Value} {l : List Int} (o : OwnU B w v l) (hl : l.length ≤ 100000) (x : Int) (h : x ∈ l) :
    Calls Tryz.prog 31 #[v, .int .u64 x] w fun e w' => e = .returned (.bool true) ∧ w = w' := by
  rcases first_or x l with h1 | ⟨i, h1⟩
  · exact absurd h h1
  have hi := index_loop o hl x _ (.inr ⟨i, h1, rfl⟩)
  clear h h1
  go_enter Tryz.func31, Tryz.ntmps31
  go_wp2_with fail
  refine hi.mono ?_
  rintro e w' ⟨rfl, rfl⟩
  go_wp2
  go_ret
  exact ⟨rfl, rfl⟩
end Go.Proofs.YtmfpjnlplimkeaaGreat
/- An Index of chains in plain lists: which keys are there, each key's links, and in which order keys were put; its buckets. No dump; no condition. -/
namespace Go.Proofs.YtmfpjnlplimkeaaGreat
open Go.ChangeShapes Go.WideShapes Go.ChangeAt Go.RowKit
set_option linter.unusedVariables false

/-- The number of a key's bucket. -/
def bktI (key n : Int) : Int := if key < 0 ∨ 63 < key ∨ n < 1 ∨ 64 < n then -1 else key * 2654435769 % 4294967296 / 65536 % n
theorem bktI_b (key n : Int) (k0 : 0 ≤ key) (k1 : key ≤ 63) (n0 : 1 ≤ n) (n1 : n ≤ 64) : 0 ≤ bktI key n ∧ bktI key n < n := by
  unfold bktI
  rw [if_neg (by omega)]
  exact ⟨Int.emod_nonneg _ (by omega), Int.emod_lt_of_pos _ (by omega)⟩
/-- An Index: each key's links, if it is there; the keys in the order in which they were put. -/
structure HS where
  ch : Nat → Option (List Int)
  put : List Nat
def HS.new : HS := ⟨fun _ => none, []⟩
def HS.set (h : HS) (key : Nat) (l : List Int) : HS := ⟨fun k => if k = key then some l else h.ch k, h.put⟩
def HS.add (h : HS) (key : Nat) : HS := ⟨fun k => if k = key then some [] else h.ch k, h.put ++ [key]⟩
def HS.drop (h : HS) (key : Nat) : HS := ⟨fun k => if k = key then none else h.ch k, h.put.filter (fun k => decide (k ≠ key))⟩
/-- The keys that are there below m, rising. -/
def HS.keys (h : HS) : Nat → List Int
  | 0 => []
  | m + 1 => if (h.ch m).isSome = true then h.keys m ++ [(m : Int)] else h.keys m
/-- The keys of bucket b among n, the one that was put last first. -/
def bin (n : Int) (b : Int) (l : List Nat) : List Int := ((l.filter (fun (k : Nat) => decide (bktI (k : Int) n = b))).map (fun (k : Nat) => (k : Int))).reverse
def HS.inB (h : HS) (n b : Int) : List Int := if b < 0 ∨ n ≤ b then [] else bin n b h.put
structure HOk (s : RS) (h : HS) : Prop where
  ln : ∀ key l, h.ch key = some l → Linked s l
  dj : ∀ key key' l l', key ≠ key' → h.ch key = some l → h.ch key' = some l' → ∀ x ∈ l, x ∉ l'
  pt : ∀ key, key ∈ h.put ↔ (h.ch key).isSome = true
  lt : ∀ key ∈ h.put, key < 64
  nd : h.put.Nodup
section
variable {h : HS} {key k : Nat} {l : List Int}
theorem HS.set_at : (h.set key l).ch key = some l := if_pos rfl
theorem HS.set_ne (e : k ≠ key) : (h.set key l).ch k = h.ch k := if_neg e
theorem HS.add_at : (h.add key).ch key = some [] := if_pos rfl
theorem HS.add_ne (e : k ≠ key) : (h.add key).ch k = h.ch k := if_neg e
theorem HS.drop_at : (h.drop key).ch key = none := if_pos rfl
theorem HS.drop_ne (e : k ≠ key) : (h.drop key).ch k = h.ch k := if_neg e
theorem HS.keys_len : ∀ m, (h.keys m).length ≤ m
  | 0 => by simp [HS.keys]
  | m + 1 => by
    have := HS.keys_len m
    unfold HS.keys
    split
    · simp; omega
    · omega
theorem bin_mem {n b : Int} {q : List Nat} {x : Int} : x ∈ bin n b q ↔ ∃ k : Nat, k ∈ q ∧ bktI (k : Int) n = b ∧ x = (k : Int) := by
  unfold bin
  simp only [List.mem_reverse, List.mem_map, List.mem_filter, decide_eq_true_eq]
  constructor
  · rintro ⟨k, ⟨h1, h2⟩, h3⟩; exact ⟨k, h1, h2, h3.symm⟩
  · rintro ⟨k, h1, h2, h3⟩; exact ⟨k, ⟨h1, h2⟩, h3.symm⟩
theorem bin_nodup {n b : Int} {q : List Nat} (hq : q.Nodup) : (bin n b q).Nodup := by
  unfold bin
  unfold List.Nodup
  rw [List.pairwise_reverse, List.pairwise_map]
  refine List.Pairwise.imp ?_ (hq.filter _)
  intro a b hab e
  exact hab (by omega)
theorem bin_len {n b : Int} {q : List Nat} : (bin n b q).length ≤ q.length := by
  unfold bin
  simp only [List.length_reverse, List.length_map]
  exact List.length_filter_le _ _
end
/-- What a Make does: nothing, or a link that is nobody's. -/
theorem make_new {s : RS} (ok : ROk s) (key v b e : Int) (k0 : 0 ≤ key) (k1 : key ≤ 63) (v0 : 0 ≤ v) (v1 : v ≤ 65535) :
    (∃ s', s.make key v b e = (0, 15, s') ∧ s'.s = s.s) ∨ (∃ x s', s.make key v b e = (x, 0, s') ∧ U64 x ∧ s'.s.live x = true ∧ ∀ l, Linked s l → x ∉ l) := by
  unfold RS.make
  rw [if_neg (by omega)]
  cases ht : s.s.top with
  | none => exact .inl ⟨_, rfl, rfl⟩
  | some i =>
    refine .inr ⟨_, _, rfl, ?_⟩
    obtain ⟨hi, hk, ok', et, ek, _⟩ := ok_took ok.p ht
    have n1 := ok.p.n1
    have lb := link_b ok.p i hi
    have hl' : s.s.took.link i = s.s.link i := by unfold St.link St.tag; rw [et]
    have hnew : s.s.took.live (s.s.link i) = true := by
      have htk : s.s.took.tk i = true := by
        show s.s.took.taken.getD i false = true
        rw [ek, tk_set true (by rw [ok.p.tl]; exact hi), if_pos rfl]
      have := live_link ok' i (by rw [et]; exact hi) htk
      rwa [hl'] at this
    have hso : slotOf (s.s.link i) = i := slot_link s.s i (by omega)
    have dead : s.s.live (s.s.link i) = false := by
      cases e : s.s.live (s.s.link i) with
      | false => rfl
      | true => have := (slot_live e).2.1; rw [hso, hk] at this; cases this
    exact ⟨⟨by omega, by omega⟩, hnew, fun l hl hm => by rw [hl.live _ hm] at dead; cases dead⟩
/-- Distinct numbers below n are n at most. -/
theorem nodup_lt : ∀ (n : Nat) (q : List Nat), q.Nodup → (∀ x ∈ q, x < n) → q.length ≤ n
  | 0, q, _, h => by cases q with | nil => simp | cons a q => exact absurd (h a (by simp)) (Nat.not_lt_zero a)
  | n + 1, q, hq, h => by
    have h1 := nodup_lt n (q.erase n) (hq.erase n) (fun x hx => by
      have h2 := (List.Nodup.mem_erase_iff hq).1 hx
      have := h x h2.2
      omega)
    by_cases hm : n ∈ q
    · rw [List.length_erase_of_mem hm] at h1; omega
    · rw [List.erase_of_not_mem hm] at h1; omega
theorem HOk.short {s : RS} {h : HS} (ok : HOk s h) : h.put.length ≤ 64 := nodup_lt 64 _ ok.nd ok.lt
theorem hok_new (s : RS) : HOk s HS.new := ⟨fun k l h => (by cases h), fun a b l l' _ h => (by cases h), fun k => by simp [HS.new], by simp [HS.new], by simp [HS.new]⟩
end Go.Proofs.YtmfpjnlplimkeaaGreat
/- Contract of vinculumref3.Bucket: a key's bucket; condition: both fit their kind. -/
namespace Go.Proofs.YtmfpjnlplimkeaaGreat
open Go.ChangeShapes Go.WideShapes Go.ChangeAt Go.RowKit
set_option linter.unusedVariables false

set_option maxHeartbeats 1000000 in
theorem rbucket_any (key n : Int) (w : World) : Calls Tryz.prog 17 #[.int .i64 key, .int .i64 n] w fun y w' => y = .returned (.int .i64 (bktI key n)) ∧ w = w' := by
  unfold bktI
  rcases (by omega : key < 0 ∨ (0 ≤ key ∧ 63 < key) ∨ (0 ≤ key ∧ key ≤ 63 ∧ n < 1) ∨ (0 ≤ key ∧ key ≤ 63 ∧ 1 ≤ n ∧ 64 < n) ∨ (0 ≤ key ∧ key ≤ 63 ∧ 1 ≤ n ∧ n ≤ 64)) with h | ⟨h1, h⟩ | ⟨h1, h2, h⟩ | ⟨h1, h2, h3, h⟩ | ⟨h1, h2, h3, h4⟩
  · rw [if_pos (by omega)]
    have d1 : decide (key < 0) = true := decide_eq_true h
    go_enter Tryz.func17, Tryz.ntmps17
    go_wp2
    go_ret
    exact ⟨rfl, rfl⟩
  · rw [if_pos (by omega)]
    have d1 : decide (key < 0) = false := decide_eq_false (by omega)
    have d2 : decide (63 < key) = true := decide_eq_true h
    go_enter Tryz.func17, Tryz.ntmps17
    go_wp2
    go_ret
    exact ⟨rfl, rfl⟩
  · rw [if_pos (by omega)]
    have d1 : decide (key < 0) = false := decide_eq_false (by omega)
    have d2 : decide (63 < key) = false := decide_eq_false (by omega)
    have d3 : decide (n < 1) = true := decide_eq_true h
    go_enter Tryz.func17, Tryz.ntmps17
    go_wp2
    go_ret
    exact ⟨rfl, rfl⟩
  · rw [if_pos (by omega)]
    have d1 : decide (key < 0) = false := decide_eq_false (by omega)
    have d2 : decide (63 < key) = false := decide_eq_false (by omega)
    have d3 : decide (n < 1) = false := decide_eq_false (by omega)
    have d4 : decide (64 < n) = true := decide_eq_true h
    go_enter Tryz.func17, Tryz.ntmps17
    go_wp2
    go_ret
    exact ⟨rfl, rfl⟩
  · rw [if_neg (by omega)]
    have d1 : decide (key < 0) = false := decide_eq_false (by omega)
    have d2 : decide (63 < key) = false := decide_eq_false (by omega)
    have d3 : decide (n < 1) = false := decide_eq_false (by omega)
    have d4 : decide (64 < n) = false := decide_eq_false (by omega)
    have n0 : ¬ n = 0 := by omega
    have e1 : IntKind.u32.wrap key = key := IntWalk.u32_in _ (by omega)
    have e2 : IntKind.u32.wrap (key * 2654435769) = key * 2654435769 % 4294967296 := by rfl
    obtain ⟨a, ea⟩ : ∃ a, key * 2654435769 % 4294967296 = a := ⟨_, rfl⟩
    rw [ea] at e2 ⊢
    have ab : 0 ≤ a ∧ a < 4294967296 := by omega
    obtain ⟨b, eb⟩ : ∃ b, a / 65536 = b := ⟨_, rfl⟩
    rw [eb]
    have bb : 0 ≤ b ∧ b < 65536 := by omega
    have e3 : IntKind.i64.wrap b = b := IntWalk.i64_in _ (by omega)
    have e4 : b.tmod n = b % n := Int.tmod_eq_emod_of_nonneg bb.1
    have cb := Int.emod_nonneg b n0
    have cb2 := Int.emod_lt_of_pos b (show 0 < n by omega)
    have e5 : IntKind.i64.wrap (b % n) = b % n := IntWalk.i64_in _ (by omega)
    have e6 : a / 2 ^ 16 = b := eb
    clear ea
    go_enter Tryz.func17, Tryz.ntmps17
    go_wp2
    go_ret
    exact ⟨rfl, rfl⟩
end Go.Proofs.YtmfpjnlplimkeaaGreat
