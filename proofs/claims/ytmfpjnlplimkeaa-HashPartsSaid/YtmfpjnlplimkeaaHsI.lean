/- An Index of chains in plain lists: which keys are there, each key's links, and in which order keys were put; its buckets. No dump; no condition. -/
import Derived.Test.YtmfpjnlplimkeaaChI
namespace Go.Proofs.Ytmfpjnlplimkeaa
open Go.ChangeShapes Go.WideShapes Go.ChangeAt Go.RowKit
set_option linter.unusedVariables false

/-- The number of a key's bucket. -/
def bktI (key n : Int) : Int := if key < 0 ∨ 63 < key ∨ n < 1 ∨ 64 < n then -1 else key * 2654435769 % 4294967296 / 65536 % n
theorem bktI_b (key n : Int) (k0 : 0 ≤ key) (k1 : key ≤ 63) (n0 : 1 ≤ n) (n1 : n ≤ 64) : 0 ≤ bktI key n ∧ bktI key n < n := by
  unfold bktI
  rw [if_neg (by omega)]
  exact ⟨Int.emod_nonneg _ (by omega), Int.emod_lt_of_pos _ (by omega)⟩
/-- An Index: each key's links, if it is there; the keys in the order in which they were put. -/
structure HS where
  ch : Nat → Option (List Int)
  put : List Nat
def HS.new : HS := ⟨fun _ => none, []⟩
def HS.set (h : HS) (key : Nat) (l : List Int) : HS := ⟨fun k => if k = key then some l else h.ch k, h.put⟩
def HS.add (h : HS) (key : Nat) : HS := ⟨fun k => if k = key then some [] else h.ch k, h.put ++ [key]⟩
def HS.drop (h : HS) (key : Nat) : HS := ⟨fun k => if k = key then none else h.ch k, h.put.filter (fun k => decide (k ≠ key))⟩
/-- The keys that are there below m, rising. -/
def HS.keys (h : HS) : Nat → List Int
  | 0 => []
  | m + 1 => if (h.ch m).isSome = true then h.keys m ++ [(m : Int)] else h.keys m
/-- The keys of bucket b among n, the one that was put last first. -/
def bin (n : Int) (b : Int) (l : List Nat) : List Int := ((l.filter (fun (k : Nat) => decide (bktI (k : Int) n = b))).map (fun (k : Nat) => (k : Int))).reverse
def HS.inB (h : HS) (n b : Int) : List Int := if b < 0 ∨ n ≤ b then [] else bin n b h.put
structure HOk (s : RS) (h : HS) : Prop where
  ln : ∀ key l, h.ch key = some l → Linked s l
  dj : ∀ key key' l l', key ≠ key' → h.ch key = some l → h.ch key' = some l' → ∀ x ∈ l, x ∉ l'
  pt : ∀ key, key ∈ h.put ↔ (h.ch key).isSome = true
  lt : ∀ key ∈ h.put, key < 64
  nd : h.put.Nodup
section
variable {h : HS} {key k : Nat} {l : List Int}
theorem HS.set_at : (h.set key l).ch key = some l := if_pos rfl
theorem HS.set_ne (e : k ≠ key) : (h.set key l).ch k = h.ch k := if_neg e
theorem HS.add_at : (h.add key).ch key = some [] := if_pos rfl
theorem HS.add_ne (e : k ≠ key) : (h.add key).ch k = h.ch k := if_neg e
theorem HS.drop_at : (h.drop key).ch key = none := if_pos rfl
theorem HS.drop_ne (e : k ≠ key) : (h.drop key).ch k = h.ch k := if_neg e
theorem HS.keys_len : ∀ m, (h.keys m).length ≤ m
  | 0 => by simp [HS.keys]
  | m + 1 => by
    have := HS.keys_len m
    unfold HS.keys
    split
    · simp; omega
    · omega
theorem bin_mem {n b : Int} {q : List Nat} {x : Int} : x ∈ bin n b q ↔ ∃ k : Nat, k ∈ q ∧ bktI (k : Int) n = b ∧ x = (k : Int) := by
  unfold bin
  simp only [List.mem_reverse, List.mem_map, List.mem_filter, decide_eq_true_eq]
  constructor
  · rintro ⟨k, ⟨h1, h2⟩, h3⟩; exact ⟨k, h1, h2, h3.symm⟩
  · rintro ⟨k, h1, h2, h3⟩; exact ⟨k, ⟨h1, h2⟩, h3.symm⟩
theorem bin_nodup {n b : Int} {q : List Nat} (hq : q.Nodup) : (bin n b q).Nodup := by
  unfold bin
  unfold List.Nodup
  rw [List.pairwise_reverse, List.pairwise_map]
  refine List.Pairwise.imp ?_ (hq.filter _)
  intro a b hab e
  exact hab (by omega)
theorem bin_len {n b : Int} {q : List Nat} : (bin n b q).length ≤ q.length := by
  unfold bin
  simp only [List.length_reverse, List.length_map]
  exact List.length_filter_le _ _
end
/-- What a Make does: nothing, or a link that is nobody's. -/
theorem make_new {s : RS} (ok : ROk s) (key v b e : Int) (k0 : 0 ≤ key) (k1 : key ≤ 63) (v0 : 0 ≤ v) (v1 : v ≤ 65535) :
    (∃ s', s.make key v b e = (0, 15, s') ∧ s'.s = s.s) ∨ (∃ x s', s.make key v b e = (x, 0, s') ∧ U64 x ∧ s'.s.live x = true ∧ ∀ l, Linked s l → x ∉ l) := by
  unfold RS.make
  rw [if_neg (by omega)]
  cases ht : s.s.top with
  | none => exact .inl ⟨_, rfl, rfl⟩
  | some i =>
    refine .inr ⟨_, _, rfl, ?_⟩
    obtain ⟨hi, hk, ok', et, ek, _⟩ := ok_took ok.p ht
    have n1 := ok.p.n1
    have lb := link_b ok.p i hi
    have hl' : s.s.took.link i = s.s.link i := by unfold St.link St.tag; rw [et]
    have hnew : s.s.took.live (s.s.link i) = true := by
      have htk : s.s.took.tk i = true := by
        show s.s.took.taken.getD i false = true
        rw [ek, tk_set true (by rw [ok.p.tl]; exact hi), if_pos rfl]
      have := live_link ok' i (by rw [et]; exact hi) htk
      rwa [hl'] at this
    have hso : slotOf (s.s.link i) = i := slot_link s.s i (by omega)
    have dead : s.s.live (s.s.link i) = false := by
      cases e : s.s.live (s.s.link i) with
      | false => rfl
      | true => have := (slot_live e).2.1; rw [hso, hk] at this; cases this
    exact ⟨⟨by omega, by omega⟩, hnew, fun l hl hm => by rw [hl.live _ hm] at dead; cases dead⟩
/-- Distinct numbers below n are n at most. -/
theorem nodup_lt : ∀ (n : Nat) (q : List Nat), q.Nodup → (∀ x ∈ q, x < n) → q.length ≤ n
  | 0, q, _, h => by cases q with | nil => simp | cons a q => exact absurd (h a (by simp)) (Nat.not_lt_zero a)
  | n + 1, q, hq, h => by
    have h1 := nodup_lt n (q.erase n) (hq.erase n) (fun x hx => by
      have h2 := (List.Nodup.mem_erase_iff hq).1 hx
      have := h x h2.2
      omega)
    by_cases hm : n ∈ q
    · rw [List.length_erase_of_mem hm] at h1; omega
    · rw [List.erase_of_not_mem hm] at h1; omega
theorem HOk.short {s : RS} {h : HS} (ok : HOk s h) : h.put.length ≤ 64 := nodup_lt 64 _ ok.nd ok.lt
theorem hok_new (s : RS) : HOk s HS.new := ⟨fun k l h => (by cases h), fun a b l l' _ h => (by cases h), fun k => by simp [HS.new], by simp [HS.new], by simp [HS.new]⟩
end Go.Proofs.Ytmfpjnlplimkeaa
