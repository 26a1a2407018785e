/- Contracts of (*Arena).Words, (*Arena).Copy, vinculumref1.Same and the statement's helper awake: what each returns and what it leaves as it was; conditions: the Arena is one that New made; Same: two rows of 64-bit numbers. -/
import Derived.Test.YtcfalcjefdgahaaMeth
import Derived.Deep.QuietTactic
import Derived.BigQuiet
import Derived.StillTailTactics
import Derived.Deep.LoopGhost
namespace Go.Proofs.Ytcfalcjefdgahaa
open Go.ChangeShapes Go.WideShapes Go.ChangeAt Go.RowKit
set_option linter.unusedVariables false

/-- zs is copied up to k; zeros from there. -/
def upto (zs : List Int) (k : Nat) : List Int := zs.take k ++ List.replicate (zs.length - k) 0
theorem upto_len (zs : List Int) (k : Nat) (h : k ≤ zs.length) : (upto zs k).length = zs.length := by simp [upto]; omega
theorem upto_zero (zs : List Int) : upto zs 0 = List.replicate zs.length 0 := by simp [upto]
theorem upto_all (zs : List Int) : upto zs zs.length = zs := by simp [upto]
theorem upto_set (zs : List Int) (k : Nat) (h : k < zs.length) : (upto zs k).set k (zs.getD k 0) = upto zs (k + 1) := by
  apply List.ext_getElem?
  intro i
  have hl : min k zs.length = k := by omega
  simp only [upto, List.getElem?_set, List.length_append, List.length_take, List.length_replicate, List.getElem?_append, List.getElem?_take, List.getElem?_replicate, List.getD_eq_getElem?_getD, hl, show min (k + 1) zs.length = k + 1 by omega]
  by_cases e : k = i
  · subst e
    simp [h, show k < k + (zs.length - k) by omega]
  · by_cases e2 : i < k
    · simp [e, e2, show i < k + 1 by omega]
    · simp only [e, e2, if_false, show ¬ i < k + 1 by omega]
      by_cases e3 : i < zs.length
      · simp [show i - k < zs.length - k by omega, show i - (k + 1) < zs.length - (k + 1) by omega]
      · simp [show ¬ i - k < zs.length - k by omega, show ¬ i - (k + 1) < zs.length - (k + 1) by omega]
theorem upto_allU (zs : List Int) (k : Nat) (h : AllU zs) : AllU (upto zs k) := by
  intro i
  by_cases e : i < k
  · have := h i
    rw [List.getD_eq_getElem?_getD] at this ⊢
    rw [upto, List.getElem?_append]
    split
    · rw [List.getElem?_take, if_pos e]; exact this
    · rw [List.getElem?_replicate]; split <;> simp
  · rw [List.getD_eq_getElem?_getD, upto, List.getElem?_append]
    split
    · rename_i h2; simp at h2; omega
    · rw [List.getElem?_replicate]; split <;> simp
theorem info_u64 : (Try.prog.info? 22).map (fun i => (i.zero, i.size, i.bytes)) = some (some (.int .u64 0), 1, 8) := by kernel_rfl
def WordsPost (zs : List Int) (w : World) (e : Ending) (w' : World) : Prop :=
  ∃ b, e = .returned (.slice (some ⟨b, 0, none⟩) zs.length zs.length) ∧ RowU w' b zs ∧ w.heap.size ≤ b ∧ Below w.heap.size w w'
def WordsRel (zs : List Int) (p q : Nat) (c : Int) (b : Nat) (w : World) (k : Nat) (i : Value) (wr : World) : Prop :=
  k ≤ zs.length ∧ i = .int .i64 k ∧ RowU wr b (upto zs k) ∧ Ar wr p q zs c ∧ Below w.heap.size w wr
theorem words_any (p q : Nat) (zs : List Int) (c : Int) (w : World) (h : Ar w p q zs c) :
    Calls Try.prog 13 #[.pointer (some ⟨p, 0, none⟩)] w (WordsPost zs w) := by
  have hs := h.sl
  have hl := h.len
  have hp := h.lt
  have hq := h.ws.lt
  obtain ⟨i0, hi, hz0, hz1, hz2⟩ := info_parts info_u64
  go_enter Try.func13, Try.ntmps13
  go_wp2_with (with_reducible refine wpList_make_full _ rfl (.tmp 9) (.tmp 9) 23 rfl w.heap.size 22 i0 _ 1 Try.underlying23 hi hz0 hz1 .i64 .i64 (zs.length : Int) (zs.length : Int) zs.length rfl rfl rfl rfl (by rw [hz2]; omega) (by unfold maxLen; omega) (Nat.le_refl _) ?_)
  intro w1 h1 g1
  have r1 := rowU_made h1
  have k1 := keep_grown g1 (fun _ => False)
  have a1 := h.keep k1 (by simp) (by simp)
  have s1 := a1.sl
  clear h1 g1 hs hi hz0 hz1 hz2
  go_wp2
  go_loopw [16] (fun i wr => ∃ k : Nat, WordsRel zs p q c w.heap.size w k i wr) (fun i _ => zs.length - (intOf i).toNat)
  case atStart => exact ⟨0, Nat.zero_le _, rfl, by rw [upto_zero]; exact r1, a1, k1.below (Nat.le_refl _) (by simp)⟩
  case round =>
    obtain ⟨k, hk, rfl, rr, ar, br⟩ := hrel
    clear r1 k1 a1 s1
    have sr := ar.sl
    by_cases hlt : k < zs.length
    · have hc := ar.ws.cell k hlt
      have hc2 := rr.cell k (by rw [upto_len zs k hk]; exact hlt)
      have hf2 := rr.free k
      obtain ⟨y, ey⟩ : ∃ y, zs.getD k 0 = y := ⟨_, rfl⟩
      rw [ey] at hc
      have EY := Lib.hid ey
      clear ey
      obtain ⟨z, ez⟩ : ∃ z, (upto zs k).getD k 0 = z := ⟨_, rfl⟩
      rw [ez] at hc2
      clear ez
      go_wp2_with (go_at_call 22; refine (aload_any _ _ _ hc rfl).mono ?_; rintro e w' ⟨rfl, rfl⟩)
      go_roundw
      case rel =>
        have r2 := rr.set k (by rw [upto_len zs k hk]; exact hlt) (zs.getD k 0)
        rw [upto_set zs k hlt, EY.out] at r2
        exact ⟨k + 1, by omega, by go_num, r2, ar.keep ((Keep.refl (fun b => b = w.heap.size) _).setCell rfl _) (by omega) (by omega), br.setCell (Nat.le_refl _) _⟩
      case measure => simp [intOf]; omega
    · obtain rfl : k = zs.length := by omega
      go_wp2
      go_ret
      rw [upto_all] at rr
      exact ⟨_, rfl, rr, Nat.le_refl _, br⟩
def CopyPost (zs : List Int) (c : Int) (w : World) (e : Ending) (w' : World) : Prop :=
  ∃ p q, e = .returned (.pointer (some ⟨p, 0, none⟩)) ∧ Ar w' p q zs c ∧ w.heap.size ≤ p ∧ w.heap.size ≤ q ∧ Below w.heap.size w w'
def CopyRel (zs : List Int) (p q : Nat) (c : Int) (p2 q2 : Nat) (w : World) (k : Nat) (i : Value) (wr : World) : Prop :=
  k ≤ zs.length ∧ i = .int .i64 k ∧ Ar wr p2 q2 (upto zs k) 0 ∧ Ar wr p q zs c ∧ Below w.heap.size w wr
theorem copy_any (p q : Nat) (zs : List Int) (c : Int) (w : World) (h : Ar w p q zs c) :
    Calls Try.prog 14 #[.pointer (some ⟨p, 0, none⟩)] w (CopyPost zs c w) := by
  have hs := h.sl
  have hl := h.len
  have hp := h.lt
  have hq := h.ws.lt
  obtain ⟨i0, hi, hz0, hz1, hz2⟩ := info_parts info_atomic
  go_enter Try.func14, Try.ntmps14
  go_wp2_with (with_reducible refine wpList_make_full _ rfl (.tmp 9) (.tmp 9) 45 rfl w.heap.size 59 i0 _ 1 Try.underlying45 hi hz0 hz1 .i64 .i64 (zs.length : Int) (zs.length : Int) zs.length rfl rfl rfl rfl (by rw [hz2]; omega) (by unfold maxLen; omega) (Nat.le_refl _) ?_)
  intro w1 h1 g1
  have r1 := rowU_made h1
  have k1 := keep_grown g1 (fun _ => False)
  have a1 := h.keep k1 (by simp) (by simp)
  have s1 := a1.sl
  have p1 := a1.lt
  have q1 := r1.lt
  clear h1 g1 hs hi hz0 hz1 hz2
  have bp : w.heap.size ≤ w1.heap.size := k1.size
  have ha : Ar (w1.alloc (.cells #[.slice (some ⟨w.heap.size, 0, none⟩) zs.length zs.length, .int .i64 0] 52)) w1.heap.size w.heap.size (List.replicate zs.length 0) 0 := by
    refine ⟨?_, ?_, ?_, r1.keep ((Keep.refl (fun _ => False) _).alloc _) (by simp), by omega, by simpa using hl, allU_zero _⟩
    · simp
    · simp
    · intro i; simp
  have hb : Ar (w1.alloc (.cells #[.slice (some ⟨w.heap.size, 0, none⟩) zs.length zs.length, .int .i64 0] 52)) p q zs c := a1.keep ((Keep.refl (fun _ => False) _).alloc _) (by simp) (by simp)
  have kb := (k1.alloc (.cells #[.slice (some ⟨w.heap.size, 0, none⟩) zs.length zs.length, .int .i64 0] 52)).below (Nat.le_refl _) (by simp)
  clear r1 a1 k1
  go_wp2
  go_loopw [18] (fun i wr => ∃ k : Nat, CopyRel zs p q c w1.heap.size w.heap.size w k i wr) (fun i _ => zs.length - (intOf i).toNat)
  case atStart => exact ⟨0, Nat.zero_le _, rfl, by rw [upto_zero]; exact ha, hb, kb⟩
  case round =>
    obtain ⟨k, hk, rfl, rr, ar, br⟩ := hrel
    clear ha hb kb s1 q1 p1
    have sr := ar.sl
    have s2 := rr.sl
    rw [upto_len zs k hk] at s2
    by_cases hlt : k < zs.length
    · have hc := ar.ws.cell k hlt
      have hc2 := rr.ws.cell k (by rw [upto_len zs k hk]; exact hlt)
      have hf2 := rr.ws.free k
      obtain ⟨y, ey⟩ : ∃ y, zs.getD k 0 = y := ⟨_, rfl⟩
      rw [ey] at hc
      have hy := h.all k
      rw [ey] at hy
      have EY := Lib.hid ey
      clear ey
      obtain ⟨z, ez⟩ : ∃ z, (upto zs k).getD k 0 = z := ⟨_, rfl⟩
      rw [ez] at hc2
      clear ez
      go_wp2_with fail
      go_still_tail 13, (by kernel_rfl)
      still_call ((aload_any ⟨q, k, none⟩ y wr.drew hc rfl).mono fun _ _ x => ⟨x.1, x.2.symm⟩)
      refine wpStill_nil ?_
      change wpList _ _ _ _ _ wr.drew
      go_wp2_with (go_at_call 20; refine (astore_any ⟨w.heap.size, k, none⟩ _ y wr.drew hc2 hf2 rfl).mono ?_; rintro e w' ⟨rfl, rfl⟩)
      go_roundw
      case rel =>
        have r2 := rr.set k (by rw [upto_len zs k hk]; exact hlt) hy.1 hy.2
        have e2 := upto_set zs k hlt
        rw [EY.out] at e2
        rw [e2] at r2
        exact ⟨k + 1, by omega, by go_num, r2.keep (Keep.refl (fun _ => False) _).drew (by simp) (by simp), ar.keep ((Keep.refl (fun b => b = w.heap.size) _).setCell rfl _).drew (by omega) (by omega), (br.setCell (Nat.le_refl _) _).drew⟩
      case measure => simp [intOf]; omega
    · obtain rfl : k = zs.length := by omega
      have hc := ar.cn
      have hc2 := rr.cn
      have hf2 := rr.fc 1
      go_wp2_with fail
      go_still_tail 7, (by kernel_rfl)
      still_call ((cload_any ⟨p, 1, none⟩ c wr.drew hc rfl).mono fun _ _ x => ⟨x.1, x.2.symm⟩)
      refine wpStill_nil ?_
      change wpList _ _ _ _ _ wr.drew
      go_wp2_with (go_at_call 23; refine (cstore_any ⟨w1.heap.size, 1, none⟩ _ c wr.drew hc2 hf2 rfl).mono ?_; rintro e w' ⟨rfl, rfl⟩)
      go_ret
      rw [upto_all] at rr
      exact ⟨_, _, rfl, (rr.count c).keep (Keep.refl (fun _ => False) _).drew (by simp) (by simp), bp, Nat.le_refl _, (br.setCell bp _).drew⟩
def SamePost (w : World) (e : Ending) (w' : World) : Prop := e = .returned (.bool true) ∧ ∃ d, w' = w.drewN d
theorem same_yes (b b2 o o2 c1 c2 : Nat) (xs : List Int) (w : World) (hl : xs.length ≤ 100000)
    (h1 : ∀ i, i < xs.length → w.cell? ⟨b, o + i, none⟩ = some (.int .u64 (xs.getD i 0))) (h2 : ∀ i, i < xs.length → w.cell? ⟨b2, o2 + i, none⟩ = some (.int .u64 (xs.getD i 0))) :
    Calls Try.prog 16 #[.slice (some ⟨b, o, none⟩) xs.length c1, .slice (some ⟨b2, o2, none⟩) xs.length c2] w (SamePost w) := by
  go_enter Try.func16, Try.ntmps16
  go_wp2
  go_loopw [5] (fun i wr => ∃ k d : Nat, k ≤ xs.length ∧ i = .int .i64 k ∧ wr = w.drewN d) (fun i _ => xs.length - (intOf i).toNat)
  case atStart => exact ⟨0, 0, Nat.zero_le _, rfl, rfl⟩
  case round =>
    obtain ⟨k, d, hk, rfl, rfl⟩ := hrel
    by_cases hlt : k < xs.length
    · have c1 := h1 k hlt
      have c2 := h2 k hlt
      obtain ⟨y, ey⟩ : ∃ y, xs.getD k 0 = y := ⟨_, rfl⟩
      rw [ey] at c1 c2
      clear ey h1 h2
      go_wp2_with fail
      go_quiet (fail)
      go_wp2
      go_roundw
      case rel => exact ⟨k + 1, _, by omega, by go_num, rfl⟩
      case measure => simp [intOf]; omega
    · obtain rfl : k = xs.length := by omega
      clear h1 h2
      go_wp2
      go_ret
      exact ⟨rfl, d, rfl⟩
theorem drewN_keep (S : Nat → Prop) (w : World) (d : Nat) : Keep S w (w.drewN d) := ⟨rfl, rfl, rfl, Nat.le_refl _, fun _ _ _ => rfl⟩
theorem two_ge {B p q : Nat} (hp : B ≤ p) (hq : B ≤ q) : ∀ k, Two p q k → B ≤ k := fun k h => by rcases h with h | h <;> omega
def AwakePost (w : World) (e : Ending) (w' : World) : Prop := e = .returned (.bool true) ∧ Below w.heap.size w w'
theorem awake2_any (w : World) : Calls Try.prog 12 #[] w (AwakePost w) := by
  go_enter Try.func12, Try.ntmps12
  go_wp2_with fail
  refine (new_ok 2 _ (by omega) (by omega)).mono ?_
  rintro e w1 ⟨p, q, rfl, h1, hp, hq, b1⟩
  go_wp2_with fail
  refine (cas_hit p q _ 0 0 0 5 _ h1 (by simp) (by omega) (by omega) (by omega) (by omega) (by simp)).mono ?_
  rintro e w2 ⟨rfl, h2, k2⟩
  go_wp2_with fail
  refine (cas_miss p q _ _ 0 0 6 _ h2 (by simp) (by omega) (by omega) (by simp)).mono ?_
  rintro e w3 ⟨rfl, h3, k3⟩
  go_wp2_with fail
  refine (load_in p q _ _ 0 _ h3 (by simp) (by omega) (by omega)).mono ?_
  rintro e w4 ⟨rfl, h4, k4⟩
  go_wp2_with fail
  refine (count_any p q _ _ _ h4).mono ?_
  rintro e w5 ⟨rfl, rfl⟩
  go_wp2
  go_ret
  exact ⟨rfl, b1.trans (((k2.trans k3).trans k4).below b1.size (two_ge hp hq))⟩
