/- Contracts of the methods of an Arena that touch one word or none (New, Len, Load, Store, CAS, Add, Count): at a place that is a word, and at one that is none; conditions: the Arena is one that New made, each number fits its kind. -/
import Derived.Test.YtopnhkogapidhaaArena
namespace Go.Proofs.Ytopnhkogapidhaa
open Go.ChangeShapes Go.WideShapes Go.ChangeAt Go.RowKit
set_option linter.unusedVariables false

def NewPost (n : Nat) (w : World) (e : Ending) (w' : World) : Prop :=
  ∃ p q, e = .returned (.tuple #[.pointer (some ⟨p, 0, none⟩), .int .i64 0]) ∧ Ar w' p q (List.replicate n 0) 0 ∧ w.heap.size ≤ p ∧ w.heap.size ≤ q ∧ Below w.heap.size w w'
/-- The value v, and an Arena at p, q that now holds zs and has counted to c; nothing else has turned. -/
def Post (v : Value) (p q : Nat) (zs : List Int) (c : Int) (w : World) (e : Ending) (w' : World) : Prop :=
  e = .returned v ∧ Ar w' p q zs c ∧ Keep (Two p q) w w'
theorem info_atomic : (Try.prog.info? 104).map (fun i => (i.zero, i.size, i.bytes)) = some (some (.agg #[.int .u64 0]), 1, 8) := by kernel_rfl
theorem allU_zero (n : Nat) : AllU (List.replicate n 0) := by
  intro i
  rw [List.getD_eq_getElem?_getD, List.getElem?_replicate]
  split <;> simp
theorem getD_zero (n i : Nat) : (List.replicate n (0 : Int)).getD i 0 = 0 := by
  rw [List.getD_eq_getElem?_getD, List.getElem?_replicate]
  split <;> simp
/-- A row that a make has just laid is a row of zeros. -/
theorem rowU_made {w : World} {base g n cap : Nat} {t : TypeId} (h : w.ownsRow base t 1 (.slice (some ⟨g, 0, none⟩) n cap) n (madeCells #[.int .u64 0] n).toList) : RowU w g (List.replicate n 0) := by
  have hl : g < w.heap.size := (h.lt g rfl).2
  rw [toList_madeCells_one] at h
  refine ⟨fun i hi => ?_, fun i => h.frozenAt i, hl⟩
  simp only [List.length_replicate] at hi
  rw [h.cellAt i (by omega), getD_zero, List.getElem?_replicate, if_pos hi]
theorem keep_grown {w w' : World} (h : w.grownBy w' none) (S : Nat → Prop) : Keep S w w' := ⟨h.os, h.tape, h.output, h.size, fun k hk _ => h.block k hk (by simp)⟩
theorem new_no (n : Int) (w : World) (h : n < 1 ∨ 100000 < n) : Calls Try.prog 18 #[.int .i64 n] w fun e w' => e = .returned (.tuple #[.pointer none, .int .i64 1]) ∧ w = w' := by
  by_cases h1 : n < 1
  · go_enter Try.func18, Try.ntmps18
    go_wp2
    go_ret2
    exact ⟨rfl, rfl⟩
  · have h2 : 100000 < n := by omega
    go_enter Try.func18, Try.ntmps18
    go_wp2
    go_ret2
    exact ⟨rfl, rfl⟩
set_option maxRecDepth 100000 in
theorem new_ok (n : Nat) (w : World) (h0 : 1 ≤ n) (h1 : n ≤ 100000) : Calls Try.prog 18 #[.int .i64 n] w (NewPost n w) := by
  obtain ⟨i0, hi, hz0, hz1, hz2⟩ := info_parts info_atomic
  go_enter Try.func18, Try.ntmps18
  go_wp2_with (with_reducible refine wpList_make_full _ rfl (.tmp 10) (.tmp 10) 83 rfl w.heap.size 104 i0 _ 1 Try.underlying83 hi hz0 hz1 .i64 .i64 (n : Int) (n : Int) n rfl rfl rfl rfl (by rw [hz2]; omega) (by unfold maxLen; omega) (Nat.le_refl _) ?_)
  intro w1 h1 g1
  have r1 := rowU_made h1
  have k1 := keep_grown g1 (fun _ => False)
  have hlt := r1.lt
  clear h1 g1
  go_wp2
  go_ret2
  refine ⟨w1.heap.size, w.heap.size, rfl, ?_, k1.size, Nat.le_refl _, ?_⟩
  · refine ⟨?_, ?_, ?_, r1.keep ((Keep.refl (fun _ => False) _).alloc _) (by simp), by omega, by simpa using by omega, allU_zero n⟩
    · simp
    · simp
    · intro i; simp
  · exact (k1.alloc _).below (Nat.le_refl _) (by simp)
theorem load_in (p q : Nat) (zs : List Int) (c : Int) (i : Nat) (w : World) (h : Ar w p q zs c) (hi : i < zs.length) (h0 : 0 ≤ c) (h1 : c < 9223372036854775807) :
    Calls Try.prog 31 #[.pointer (some ⟨p, 0, none⟩), .int .i64 i] w (Post (.int .u64 (zs.getD i 0)) p q zs (c + 1) w) := by
  have ha := h.count (c + 1)
  have hc := ha.ws.cell i hi
  obtain ⟨y, ey⟩ : ∃ y, zs.getD i 0 = y := ⟨_, rfl⟩
  rw [ey] at hc ⊢
  clear ey
  go_enter Try.func31, Try.ntmps31
  go_wp2_with fail; refine (access_in p q zs c i w h hi h0 h1).mono ?_; rintro e w1 ⟨rfl, rfl⟩
  go_wp2_with (go_at_call 37; refine (aload_any _ _ _ hc rfl).mono ?_; rintro e w' ⟨rfl, rfl⟩)
  go_ret
  exact ⟨rfl, ha, (Keep.refl _ _).setCell (Or.inl rfl) _⟩
theorem load_no (p q : Nat) (zs : List Int) (c : Int) (i : Int) (w : World) (h : Ar w p q zs c) (hi : i < 0 ∨ zs.length ≤ i) :
    Calls Try.prog 31 #[.pointer (some ⟨p, 0, none⟩), .int .i64 i] w fun e w' => e = .returned (.int .u64 0) ∧ w = w' := by
  go_enter Try.func31, Try.ntmps31
  go_wp2_with (go_at_call 35; refine (access_no p q zs c i _ h hi).mono ?_; rintro e w' ⟨rfl, rfl⟩)
  go_ret
  exact ⟨rfl, rfl⟩
theorem store_in (p q : Nat) (zs : List Int) (c : Int) (i : Nat) (x : Int) (w : World) (h : Ar w p q zs c) (hi : i < zs.length) (h0 : 0 ≤ c) (h1 : c < 9223372036854775807) (x0 : 0 ≤ x) (x1 : x ≤ 18446744073709551615) :
    Calls Try.prog 29 #[.pointer (some ⟨p, 0, none⟩), .int .i64 i, .int .u64 x] w (Post (.tuple #[]) p q (zs.set i x) (c + 1) w) := by
  have ha := h.count (c + 1)
  have hc := ha.ws.cell i hi
  have hz := ha.ws.free i
  go_enter Try.func29, Try.ntmps29
  go_wp2_with fail; refine (access_in p q zs c i w h hi h0 h1).mono ?_; rintro e w1 ⟨rfl, rfl⟩
  go_wp2_with (go_at_call 36; refine (astore_any _ _ _ _ hc hz rfl).mono ?_; rintro e w' ⟨rfl, rfl⟩)
  go_end0
  exact ⟨rfl, ha.set i hi x0 x1, ((Keep.refl _ _).setCell (Or.inl rfl) _).setCell (Or.inr rfl) _⟩
theorem store_no (p q : Nat) (zs : List Int) (c : Int) (i : Int) (x : Int) (w : World) (h : Ar w p q zs c) (hi : i < 0 ∨ zs.length ≤ i) :
    Calls Try.prog 29 #[.pointer (some ⟨p, 0, none⟩), .int .i64 i, .int .u64 x] w fun e w' => e = .returned (.tuple #[]) ∧ w = w' := by
  go_enter Try.func29, Try.ntmps29
  go_wp2_with (go_at_call 35; refine (access_no p q zs c i _ h hi).mono ?_; rintro e w' ⟨rfl, rfl⟩)
  go_end0
  exact ⟨rfl, rfl⟩
/- The same, with what comes out under names of one's own. -/
theorem load_to {p q : Nat} {zs : List Int} {c : Int} (i : Nat) {w : World} (y c2 : Int) (h : Ar w p q zs c) (hi : i < zs.length) (h0 : 0 ≤ c) (h1 : c < 9223372036854775807) (hy : zs.getD i 0 = y) (hc : c + 1 = c2) :
    Calls Try.prog 31 #[.pointer (some ⟨p, 0, none⟩), .int .i64 i] w (Post (.int .u64 y) p q zs c2 w) := by
  subst hy; subst hc; exact load_in p q zs c i w h hi h0 h1
theorem store_to {p q : Nat} {zs : List Int} {c : Int} (i : Nat) {w : World} (x : Int) (zs2 : List Int) (c2 : Int) (h : Ar w p q zs c) (hi : i < zs.length) (h0 : 0 ≤ c) (h1 : c < 9223372036854775807) (x0 : 0 ≤ x) (x1 : x ≤ 18446744073709551615) (hz : zs.set i x = zs2) (hc : c + 1 = c2) :
    Calls Try.prog 29 #[.pointer (some ⟨p, 0, none⟩), .int .i64 i, .int .u64 x] w (Post (.tuple #[]) p q zs2 c2 w) := by
  subst hz; subst hc; exact store_in p q zs c i x w h hi h0 h1 x0 x1
end Go.Proofs.Ytopnhkogapidhaa
