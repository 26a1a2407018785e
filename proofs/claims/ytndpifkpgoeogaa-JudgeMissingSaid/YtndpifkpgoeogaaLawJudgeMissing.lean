/- Proved here: vinculumlaw15.JudgeMissing returns true and leaves its arguments as they were, for any key, link, place and word and any slice of links; no further condition. -/
import Derived.Test.YtndpifkpgoeogaaJuD
import Derived.Test.YtndpifkpgoeogaaMask
import Derived.Test.YtndpifkpgoeogaaRow
import Derived.Test.YtndpifkpgoeogaaApp
import Derived.ChangeOld
import Derived.Laws.BitsAllLaws
import Derived.Deep.RegionHeld3
import Derived.Deep.QuietTactic
import Derived.BigQuiet
import Derived.Laws.AppendOwnNone
import Derived.StillTailTactics
namespace Go.Proofs.Ytndpifkpgoeogaa.judgeMissing
open Go.ChangeShapes Go.WideShapes Go.ChangeAt Go.RowKit
set_option linter.unusedVariables false

theorem row_lies {w : World} {A : Option Addr} {n c : Nat} {z : List Int} (h : IsRow .u64 w A n c z) : Lies w (.slice A n c) z := by
  have hl := h.len
  refine ⟨A, c, by rw [hl], by rw [hl]; exact h.cap, fun h0 => ?_⟩
  obtain ⟨b, off, e, hb, hc⟩ := h.cell (by omega)
  exact ⟨b, off, e, hb, fun j hj => hc j (by omega)⟩
/-- The slice that came in: nothing lies behind a nil one. -/
def RowZ (w : World) (A : Option Addr) (n c : Nat) (zs : List Int) : Prop := IsRow .u64 w A n c zs ∧ (A = none → c = 0)
theorem is_rowz {H : Type} {enc : TypeId × Value → H} {w : World} {spare : Nat → Bool} {held : Bool} {A : Option Addr} {n c : Nat} {d : DataW H} {ps : List MemPlace}
    (h : DataW.Trod enc Try.prog w 0 spare held 33 (.slice A n c) d ps) : ∃ zs, RowZ w A n c zs := by
  obtain ⟨zs, hz⟩ := is_row Try.underlying33 Try.underlying23 (by kernel_rfl) h
  refine ⟨zs, hz, fun e => ?_⟩
  subst e
  obtain ⟨fuel, hf⟩ := h
  rcases open_ints Try.underlying33 Try.underlying23 (by kernel_rfl) hf with ⟨h0, _⟩ | ⟨a, len, cap, zs, h0, _⟩
  · simp [Value.cells] at h0
    exact h0.2
  · simp [Value.cells] at h0
theorem own_first {B : Nat} {w : World} {v : Value} {x : Int} {t : List Int} (o : OwnU B w v (x :: t)) : ∃ g c, v = .slice (some ⟨g, 0, none⟩) (t.length + 1) c ∧ B ≤ g ∧ g < w.heap.size := by
  rcases o.shape with ⟨_, h⟩ | ⟨g, c, rfl, h1, h2, _⟩
  · cases h
  · exact ⟨g, c, rfl, h1, h2⟩
theorem now_clo {W w : World} {g : Nat} {x : Int} (hc : W.cell? ⟨g, 0, none⟩ = some (.int .u64 x)) (hg : g < W.heap.size) (b : Below W.heap.size W w) (k : Int) :
    Calls Try.prog 15 #[.int .i64 k, .pointer (some ⟨g, 0, none⟩)] w fun e w' => e = .returned (.int .u64 x) ∧ w = w' := by
  have h1 := (b.cell (p := ⟨g, 0, none⟩) hg).trans hc
  go_enter Try.func15, Try.ntmps15
  go_wp2
  go_ret
  exact ⟨rfl, rfl⟩
theorem isNow {W : World} {g t : Nat} {x : Int} {s : RdS} (hc : W.cell? ⟨g, 0, none⟩ = some (.int .u64 x)) (hg : g < W.heap.size) (hx : U64 x) : IsNow (.func (.func 15) #[] #[.pointer (some ⟨g, 0, none⟩)]) W t s (fun _ _ => True) (fun _ => x) :=
  ⟨.inr ⟨_, _, rfl, fun a w => rfl, fun k w S _ _ h _ => (now_clo hc hg h.b k).mono (by rintro e w' ⟨rfl, rfl⟩; exact ⟨rfl, S, h, Keep.refl _ _, fun j hj => .inl hj⟩)⟩, fun _ _ _ => hx⟩
theorem two_clo {w : World} {g : Nat} {A : Option Addr} {n c : Nat} (h1 : w.cell? ⟨g, 0, none⟩ = some (.slice A n c)) (lo hi : Int) :
    Calls Try.prog 16 #[.int .i64 lo, .int .i64 hi, .pointer (some ⟨g, 0, none⟩)] w fun e w' => e = .returned (.slice A n c) ∧ w = w' := by
  go_enter Try.func16, Try.ntmps16
  go_wp2
  go_ret
  exact ⟨rfl, rfl⟩
theorem three_clo {w : World} {g : Nat} {A : Option Addr} {n c : Nat} (h1 : w.cell? ⟨g, 0, none⟩ = some (.slice A n c)) (lo hi : Int) :
    Calls Try.prog 17 #[.int .i64 lo, .int .i64 hi, .pointer (some ⟨g, 0, none⟩)] w fun e w' => e = .returned (.slice A n c) ∧ w = w' := by
  go_enter Try.func17, Try.ntmps17
  go_wp2
  go_ret
  exact ⟨rfl, rfl⟩
/-- The law's own list, behind a captured variable. -/
structure QO (g : Nat) (v : Value) (zs : List Int) (w : World) (S : Nat → Prop) : Prop where
  c : w.cell? ⟨g, 0, none⟩ = some v
  o : OwnU 0 w v zs
  d : ¬ S g
  e : ∀ b, v.ownBlock = some b → ¬ S b
theorem QO.turn {g : Nat} {v : Value} {zs : List Int} {w w' : World} {S S1 S1' : Nat → Prop} (h : QO g v zs w S) (h1 : QO g v zs w S1) (k : VKeep S1 S1' w w') : QO g v zs w' S ∧ QO g v zs w' S1' := by
  have c := k.1.cell h.c h1.d
  have o := OwnU.keep h.o k.1 h1.e
  refine ⟨⟨c, o, h.d, h.e⟩, c, o, fun x => ?_, fun b hb x => ?_⟩
  · rcases k.2 _ x with y | y
    · exact h1.d y
    · have := lt_of_cell (a := ⟨g, 0, none⟩) h.c; simp at this; omega
  · rcases k.2 _ x with y | y
    · exact h1.e b hb y
    · have := (OwnU.lt h.o hb).2; omega
theorem QO.stay {g : Nat} {v : Value} {zs : List Int} {W : World} {t : Nat} {s : RdS} : StayJ W t s (QO g v zs) := fun _ h _ k => (h.turn h k).2
theorem isTwo {W : World} {g t : Nat} {A : Option Addr} {n c : Nat} {zs : List Int} {s : RdS} (hl : zs.length ≤ 100000) : IsSpn (.func (.func 16) #[] #[.pointer (some ⟨g, 0, none⟩)]) W t s (QO g (.slice A n c) zs) (fun _ _ => zs) :=
  ⟨.inr ⟨_, _, rfl, fun a w => rfl, fun lo hi w S _ _ _ h q => (two_clo q.c lo hi).mono (by rintro e w' ⟨rfl, rfl⟩; exact ⟨_, S, rfl, OwnU.lies q.o, h, Keep.refl _ _, fun j hj => .inl hj⟩)⟩, fun _ _ => hl⟩
theorem isThree {W : World} {g t : Nat} {A : Option Addr} {n c : Nat} {zs : List Int} {s : RdS} (hl : zs.length ≤ 100000) (hc : W.cell? ⟨g, 0, none⟩ = some (.slice A n c)) (hg : g < W.heap.size) (hz : Lies W (.slice A n c) zs) : IsSpn (.func (.func 17) #[] #[.pointer (some ⟨g, 0, none⟩)]) W t s (fun _ _ => True) (fun _ _ => zs) :=
  ⟨.inr ⟨_, _, rfl, fun a w => rfl, fun lo hi w S _ _ _ h q => (three_clo ((h.b.cell (p := ⟨g, 0, none⟩) hg).trans hc) lo hi).mono (by rintro e w' ⟨rfl, rfl⟩; exact ⟨_, S, rfl, Lies.below h.b hz, h, Keep.refl _ _, fun j hj => .inl hj⟩)⟩, fun _ _ => hl⟩
theorem xor_ne (y b : Int) (hy : U64 y) (hb : U64 b) : ∃ o q : Int, bits .or .u64 b 1 = o ∧ bits .xor .u64 y o = q ∧ q ≠ y ∧ U64 q := by
  obtain ⟨yn, rfl⟩ : ∃ n : Nat, y = n := ⟨y.toNat, by have := hy.1; omega⟩
  obtain ⟨bn, rfl⟩ : ∃ n : Nat, b = n := ⟨b.toNat, by have := hb.1; omega⟩
  have y1 : yn < 18446744073709551616 := by have := hy.2; omega
  have b1 : bn < 18446744073709551616 := by have := hb.2; omega
  have o1 : bn ||| 1 < 2 ^ 64 := Nat.or_lt_two_pow (by omega) (by omega)
  have q1 : yn ^^^ (bn ||| 1) < 2 ^ 64 := Nat.xor_lt_two_pow (by omega) o1
  refine ⟨_, _, u64_or_nat bn 1 b1 (by omega), u64_xor_nat yn (bn ||| 1) y1 (by omega), fun e => ?_, by omega, by omega⟩
  have e : yn ^^^ (bn ||| 1) = yn := by omega
  have z : yn ^^^ (yn ^^^ (bn ||| 1)) = bn ||| 1 := by rw [← Nat.xor_assoc, Nat.xor_self, Nat.zero_xor]
  rw [e, Nat.xor_self] at z
  have : 1 ≤ bn ||| 1 := Nat.right_le_or
  omega
theorem app_new {w w1 w2 : World} {x c : Nat} (k : Keep (fun _ => False) w w1) (k2 : Keep (fun j => (Value.slice (some ⟨w.heap.size, 0, none⟩) x c).ownBlock = some j) w1 w2) : Keep (fun _ => False) w w2 :=
  ⟨k2.os.trans k.os, k2.tape.trans k.tape, k2.output.trans k.output, Nat.le_trans k.size k2.size, fun j hj _ => (k2.block j (Nat.lt_of_lt_of_le hj k.size) (by simp [Value.ownBlock]; omega)).trans (k.block j hj (by simp))⟩
theorem lit_q (y : World) (x : Int) (S : Nat → Prop) (hS : ∀ j, S j → j < y.heap.size) : QO y.heap.size (.slice (some ⟨y.heap.size + 1, 0, none⟩) 1 1) [x] ((y.alloc (.cells #[.slice (some ⟨y.heap.size + 1, 0, none⟩) 1 1] 33)).alloc (.cells #[.int .u64 x] 23)) S := by
  have c0 : (y.alloc (.cells #[.slice (some ⟨y.heap.size + 1, 0, none⟩) 1 1] 33)).cell? ⟨y.heap.size, 0, none⟩ = some (.slice (some ⟨y.heap.size + 1, 0, none⟩) 1 1) := by simp
  have o0 := own_lit (w := y.alloc (.cells #[.slice (some ⟨y.heap.size + 1, 0, none⟩) 1 1] 33)) (B := 0) (Nat.zero_le _) x
  have e : (y.alloc (.cells #[.slice (some ⟨y.heap.size + 1, 0, none⟩) 1 1] 33)).heap.size = y.heap.size + 1 := by simp
  rw [e] at o0
  exact ⟨(Keep.alloc (Keep.refl (fun _ => False) _) _).cell c0 (by simp), o0, fun h => by have := hS _ h; omega, fun b hb h => by have := hS _ h; simp [Value.ownBlock] at hb; omega⟩
set_option maxRecDepth 100000 in
set_option maxHeartbeats 8000000 in
theorem walk (a0 a1 : Int) (a2 : Option Addr) (n2 c2 : Nat) (z2 : List Int) (a3 a4 : Int) (w : World) (w0 : (Lit.int .i64 a0).wf = true) (w1 : (Lit.int .u64 a1).wf = true) (w2 : RowZ w a2 n2 c2 z2) (w3 : (Lit.int .i64 a3).wf = true) (w4 : (Lit.int .u64 a4).wf = true) :
    Calls Try.prog 4 #[.int .i64 a0, .int .u64 a1, .slice a2 n2 c2, .int .i64 a3, .int .u64 a4] w fun e w' => e = .returned (.bool true) ∧ Below w.heap.size w w' := by
  have u1 : U64 a1 := bounds_u64 w1
  have u4 : U64 a4 := bounds_u64 w4
  obtain ⟨w2, hnil⟩ := w2
  have lz := w2.len
  have L := row_lies w2
  have uz := fun j => w2.u64 j
  obtain ⟨a, ea⟩ : ∃ n : Nat, a0 % 64 = (n : Int) := ⟨(a0 % 64).toNat, by omega⟩
  have ma : bits .and .i64 a0 63 = (a : Int) := (i64_mask a0 6 (by decide)).trans ea
  have ha : a < 64 := by omega
  obtain ⟨m, em⟩ : ∃ n : Nat, a3 % 256 = (n : Int) := ⟨(a3 % 256).toNat, by omega⟩
  have mm : bits .and .i64 a3 255 = (m : Int) := (i64_mask a3 8 (by decide)).trans em
  clear ea em w0 w1 w2 w3 w4
  have kA := (Keep.alloc (Keep.refl (fun _ => False) w) (.cells #[.int .u64 a1] 23)).alloc (.cells #[.slice a2 n2 c2] 33)
  have bA := kA.below (Nat.le_refl _) (by simp)
  have c6 : ((w.alloc (.cells #[.int .u64 a1] 23)).alloc (.cells #[.slice a2 n2 c2] 33)).cell? ⟨w.heap.size, 0, none⟩ = some (.int .u64 a1) := by simp
  have c7 : ((w.alloc (.cells #[.int .u64 a1] 23)).alloc (.cells #[.slice a2 n2 c2] 33)).cell? ⟨w.heap.size + 1, 0, none⟩ = some (.slice a2 n2 c2) := by simp
  have g7 : w.heap.size + 1 < ((w.alloc (.cells #[.int .u64 a1] 23)).alloc (.cells #[.slice a2 n2 c2] 33)).heap.size := by simp
  have LW := Lies.below bA L
  obtain ⟨W, eW⟩ : ∃ W, (w.alloc (.cells #[.int .u64 a1] 23)).alloc (.cells #[.slice a2 n2 c2] 33) = W := ⟨_, rfl⟩
  obtain ⟨g, eg⟩ : ∃ g, w.heap.size = g := ⟨_, rfl⟩
  rw [eW] at kA bA c6 c7 g7 LW
  rw [eg] at c6 c7 g7
  have EW := Lib.hid eW
  have EG := Lib.hid eg
  clear eW eg kA L
  by_cases hn : 40 < n2
  · have d1 : decide ((40 : Int) < (n2 : Int)) = true := decide_eq_true (by omega)
    go_enter Try.func4, Try.ntmps4
    go_wp2_with (go_at_call 13; rw [EW.out]; refine (awake15_any _).mono ?_; rintro e w' ⟨rfl, bel⟩)
    go_ret
    exact ⟨rfl, bA.trans (bel.mono bA.size)⟩
  · have d1 : decide ((40 : Int) < (n2 : Int)) = false := decide_eq_false (by omega)
    go_enter Try.func4, Try.ntmps4
    go_wp2_with fail
    rw [EW.out, EG.out]
    refine (rd_made (Below.refl _ W)).mono ?_
    rintro e w1 ⟨t1, S1, rfl, h1, _, _⟩
    go_wp2_with fail
    refine (rd_made h1.b).mono ?_
    rintro e w2 ⟨t2, S2, rfl, h2, k2', f2⟩
    have g1 := h1.quiet k2'
    have e1 : ∀ g, S1 g → ¬ S2 g := fun g hg hh => by have := h1.lt g hg; have := f2 g hh; omega
    clear h1 k2' f2
    go_wp2_with fail
    refine (rd_add g1 (a : Int) 0 ⟨by omega, by omega⟩ 0 ⟨[(a : Int)], [0], []⟩ (by unfold RdS.add RdS.new; rw [if_neg (by omega), if_neg (by simp)]; rfl)).mono ?_
    rintro e w3 ⟨rfl, S3, h3, k3⟩
    obtain ⟨h4, e2⟩ := rd_beside g1 h2 e1 h3 k3
    clear g1 h2 e1 k3
    have c7' := (h3.b.cell (p := ⟨g + 1, 0, none⟩) g7).trans c7
    go_wp2_with fail
    refine (rd_span h4 0 9 (.slice a2 n2 c2) z2 (Lies.below h3.b LW) (by omega) 0 ⟨[], [], [⟨0, 9, z2⟩]⟩ (by unfold RdS.span RdS.new; rw [if_neg (by omega), if_neg (by simp)]; rfl)).mono ?_
    rintro e w5 ⟨rfl, S5, h5, k5⟩
    obtain ⟨h6, e3⟩ := rd_beside h4 h3 (fun g hg hh => e2 g hh hg) h5 k5
    clear h4 h3 e2 k5 c7'
    have c7' := (h5.b.cell (p := ⟨g + 1, 0, none⟩) g7).trans c7
    obtain ⟨r2, er⟩ : ∃ r, (a1 == 0) = r := ⟨_, rfl⟩
    obtain ⟨x2, F2⟩ : ∃ x, allJ 3 ⟨[(a : Int)], [0], []⟩ (fun _ => a1) (fun _ _ => []) = (r2, x) := by
      by_cases h0 : a1 = 0
      · subst h0
        obtain rfl : true = r2 := by rw [← er]; rfl
        exact ⟨-1, by simp [allJ, badK, badS, needK, needS, keyJ, RdS.link]⟩
      · obtain rfl : false = r2 := by rw [← er]; simpa using h0
        exact ⟨a, by simp [allJ, badK, needK, keyJ, RdS.link, Ne.symm h0]⟩
    have F1 : allJ 2 ⟨[(a : Int)], [0], []⟩ (fun _ => a1) (fun _ _ => []) = (true, -1) := by simp [allJ, badK, badS, needK, needS, RdS.link]
    have F3 : ∀ other : List Int, allJ 2 ⟨[], [], [⟨0, 9, z2⟩]⟩ (fun _ => 0) (fun _ _ => other) = (true, -1) := fun other => by simp [allJ, badK, badS, needK, needS]
    have F4 : ∀ other : List Int, decide (z2 = other) = false → allJ 3 ⟨[], [], [⟨0, 9, z2⟩]⟩ (fun _ => 0) (fun _ _ => other) = (false, 0) := fun other ho => by simp [allJ, badK, badS, needK, needS, spanJ, ho] at ho ⊢
    have F5 : allJ 3 ⟨[], [], [⟨0, 9, z2⟩]⟩ (fun _ => 0) (fun _ _ => z2) = (true, -1) := by simp [allJ, badK, badS, needK, needS, spanJ]
    have F2 := Lib.hid F2
    have h7 := h5.b.size
    cases a2 with
    | none =>
      obtain rfl : c2 = 0 := hnil rfl
      obtain rfl : n2 = 0 := by
        rcases Nat.eq_zero_or_pos n2 with x | x
        · exact x
        · obtain ⟨A, c, e, _, hf⟩ := LW
          obtain ⟨b, off, e2, _⟩ := hf (by omega)
          simp at e
          rw [e2] at e
          simp at e
      obtain rfl : z2 = [] := List.length_eq_zero_iff.1 lz
      obtain ⟨i0, hi0, hz0, hz1, hz2⟩ := info_parts info_push
      have kE := Keep.alloc (Keep.refl (fun _ => False) w5) (.cells #[] 23)
      have c7E := kE.cell c7' (by simp)
      go_wp2_with (with_reducible refine wp_stop 55 rfl ?_)
      intro _
      refine wpList_append_own_none rfl (.tmp 53) (.tmp 54) 33 rfl w5.heap.size 23 i0 1 Try.underlying33 hi0 (.slice (some ⟨w5.heap.size, 0, none⟩) 0 0) 0 [] rfl (own_empty (Nat.le_refl _)) rfl ?_
      have kF := (kE.alloc (.cells #[.slice (some ⟨w5.heap.size + 1 + 1, 0, none⟩) 1 1] 33)).alloc (.cells #[.int .u64 a4] 23)
      have H1 := h6.quiet kF
      have H2 := h5.quiet kF
      have e5 : (w5.alloc (.cells #[] 23)).heap.size = w5.heap.size + 1 := by simp
      have qo := lit_q (w5.alloc (.cells #[] 23)) a4
      rw [e5] at qo
      have q1 := qo S3 (fun j hj => by have := h6.lt j hj; omega)
      have q2 := qo S5 (fun j hj => by have := h5.lt j hj; omega)
      have ne : decide (([] : List Int) = [a4]) = false := by simp
      have ol : [a4].length ≤ 100000 := by simp
      clear h6 h5 kE kF qo c7E c7' i0 hi0 hz0 hz1 hz2
      go_wp2_with fail
      have H3a := H1
      refine (jall_any H1 (Q := fun _ _ => True) trivial (fun _ _ _ _ => trivial) (isNow c6 (by omega) u1) spn_nil 2 _ _ F1).mono ?_
      rintro e y1 ⟨rfl, S6, H3, k6⟩
      obtain ⟨H4, e4⟩ := rd_beside H1 H2 (fun g hg hh => e3 g hh hg) H3 k6
      obtain ⟨q3, q4⟩ := q2.turn q1 k6
      clear H3a H1 H2 q1 q2 k6
      go_wp2_with fail
      refine (jall_any H3 (Q := fun _ _ => True) trivial (fun _ _ _ _ => trivial) (isNow c6 (by omega) u1) spn_nil 3 _ _ F2.out).mono ?_
      rintro e y2 ⟨rfl, S7, H5, k7⟩
      obtain ⟨H6, e5⟩ := rd_beside H3 H4 e4 H5 k7
      obtain ⟨q5, q6⟩ := q3.turn q4 k7
      clear H3 H4 q3 q4 k7
      go_wp2_with fail
      refine (jall_any H6 q5 QO.stay now_nil (isTwo ol) 2 _ _ (F3 _)).mono ?_
      rintro e y3 ⟨rfl, S8, H7, k8⟩
      have q7 := (q5.turn q5 k8).2
      clear H6 q5 q6 k8 H5
      go_wp2_with fail
      refine (jall_any H7 q7 QO.stay now_nil (isTwo ol) 3 _ _ (F4 _ ne)).mono ?_
      rintro e y4 ⟨rfl, S9, H8, k9⟩
      clear H7 q7 k9
      go_wp2_with fail
      refine (jall_any H8 (Q := fun _ _ => True) trivial (fun _ _ _ _ => trivial) now_nil (isThree (by omega) c7 g7 LW) 3 _ _ F5).mono ?_
      rintro e y5 ⟨rfl, S10, H9, k10⟩
      have c6y := (H9.b.cell (p := ⟨g, 0, none⟩) (by show g < _; omega)).trans c6
      have b9 := bA.trans (H9.b.mono bA.size)
      clear H8 H9 k10
      go_wp2_with (go_at_call 13; refine (awake15_any _).mono ?_; rintro e w' ⟨rfl, bel⟩)
      go_ret
      exact ⟨rfl, b9.trans (bel.mono b9.size)⟩
    | some ad =>
      have kE := Keep.alloc (Keep.refl (fun _ => False) w5) (.cells #[] 23)
      have c7E := kE.cell c7' (by simp)
      have hy : ∀ t, t < z2.length → (w5.alloc (.cells #[] 23)).cell? (ad.add t) = some (.int .u64 (z2.getD t 0)) := by
        intro t ht
        obtain ⟨A, c, e, _, hf⟩ := LW
        obtain ⟨b, off, e2, hb, hc⟩ := hf (by omega)
        subst e2
        obtain rfl : ad = ⟨b, off, none⟩ := by simp at e; exact e.1
        rw [add_plain]
        exact kE.cell ((h6.b.cell (p := ⟨b, off + t, none⟩) hb).trans (hc t ht)) (by simp)
      go_wp2_with (with_reducible refine wp_stop 55 rfl ?_)
      intro _
      refine wp_app rfl (.tmp 53) (.tmp 54) rfl w5.heap.size kE.size _ [] rfl (own_empty (Nat.le_refl _)) ad n2 c2 z2 rfl lz hy (by simp) (by omega) ?_
      intro v1 y1 o1 k1
      have k1 := app_new kE k1
      rw [List.nil_append] at o1
      have s1 := k1.size
      clear hy c7E kE
      have c7y := k1.cell c7' (by simp)
      cases z2 with
      | nil =>
        obtain ⟨A1, x1, rfl⟩ : ∃ A1 x1, v1 = .slice A1 0 x1 := by
          rcases o1.shape with ⟨e, _⟩ | ⟨g, c, e, _⟩
          · exact ⟨_, _, e⟩
          · exact ⟨_, _, e⟩
        have kF := (k1.alloc (.cells #[.slice (some ⟨y1.heap.size + 1, 0, none⟩) 1 1] 33)).alloc (.cells #[.int .u64 a4] 23)
        have H1 := h6.quiet kF
        have H2 := h5.quiet kF
        have q1 := lit_q y1 a4 S3 (fun j hj => by have := h6.lt j hj; omega)
        have q2 := lit_q y1 a4 S5 (fun j hj => by have := h5.lt j hj; omega)
        have ne : decide (([] : List Int) = [a4]) = false := by simp
        have ol : [a4].length ≤ 100000 := by simp
        clear h6 h5 kF c7' c7y o1 k1
        go_wp2_with fail
        have H3a := H1
        refine (jall_any H1 (Q := fun _ _ => True) trivial (fun _ _ _ _ => trivial) (isNow c6 (by omega) u1) spn_nil 2 _ _ F1).mono ?_
        rintro e y1 ⟨rfl, S6, H3, k6⟩
        obtain ⟨H4, e4⟩ := rd_beside H1 H2 (fun g hg hh => e3 g hh hg) H3 k6
        obtain ⟨q3, q4⟩ := q2.turn q1 k6
        clear H3a H1 H2 q1 q2 k6
        go_wp2_with fail
        refine (jall_any H3 (Q := fun _ _ => True) trivial (fun _ _ _ _ => trivial) (isNow c6 (by omega) u1) spn_nil 3 _ _ F2.out).mono ?_
        rintro e y2 ⟨rfl, S7, H5, k7⟩
        obtain ⟨H6, e5⟩ := rd_beside H3 H4 e4 H5 k7
        obtain ⟨q5, q6⟩ := q3.turn q4 k7
        clear H3 H4 q3 q4 k7
        go_wp2_with fail
        refine (jall_any H6 q5 QO.stay now_nil (isTwo ol) 2 _ _ (F3 _)).mono ?_
        rintro e y3 ⟨rfl, S8, H7, k8⟩
        have q7 := (q5.turn q5 k8).2
        clear H6 q5 q6 k8 H5
        go_wp2_with fail
        refine (jall_any H7 q7 QO.stay now_nil (isTwo ol) 3 _ _ (F4 _ ne)).mono ?_
        rintro e y4 ⟨rfl, S9, H8, k9⟩
        clear H7 q7 k9
        go_wp2_with fail
        refine (jall_any H8 (Q := fun _ _ => True) trivial (fun _ _ _ _ => trivial) now_nil (isThree (by omega) c7 g7 LW) 3 _ _ F5).mono ?_
        rintro e y5 ⟨rfl, S10, H9, k10⟩
        have c6y := (H9.b.cell (p := ⟨g, 0, none⟩) (by show g < _; omega)).trans c6
        have b9 := bA.trans (H9.b.mono bA.size)
        clear H8 H9 k10
        go_wp2_with (go_at_call 13; refine (awake15_any _).mono ?_; rintro e w' ⟨rfl, bel⟩)
        go_ret
        exact ⟨rfl, b9.trans (bel.mono b9.size)⟩
      | cons x z =>
        obtain ⟨gv, cv, rfl, gv0, gv1⟩ := own_first o1
        obtain ⟨N, eN⟩ : ∃ N, z.length + 1 = N := ⟨_, rfl⟩
        rw [eN] at o1 ⊢
        have xl : (x :: z).length = N := eN
        have N0 : ¬ ((N : Int) = 0) := by omega
        have N00 : ¬ (N = 0) := by omega
        have N1 : (1 : Int) ≤ (N : Int) := by omega
        obtain ⟨r, er0⟩ : ∃ r, m % N = r := ⟨_, rfl⟩
        have hr : r < (x :: z).length := by rw [← er0, xl]; exact Nat.mod_lt _ (by omega)
        have er1 : (m : Int).tmod (N : Int) = (r : Int) := by rw [Int.tmod_eq_emod_of_nonneg (by omega), ← er0]; simp
        have er2 : (m : Int) % (N : Int) = (r : Int) := by rw [← er0]; simp
        have rN : (r : Int) < (N : Int) := by omega
        have kG := k1.alloc (.cells #[.slice (some ⟨gv, 0, none⟩) N cv] 33)
        have o2 := OwnU.keep o1 (Keep.alloc (Keep.refl (fun _ => False) y1) (.cells #[.slice (some ⟨gv, 0, none⟩) N cv] 33)) (by simp)
        have c14 : (y1.alloc (.cells #[.slice (some ⟨gv, 0, none⟩) N cv] 33)).cell? ⟨y1.heap.size, 0, none⟩ = some (.slice (some ⟨gv, 0, none⟩) N cv) := by simp
        have sz : y1.heap.size < (y1.alloc (.cells #[.slice (some ⟨gv, 0, none⟩) N cv] 33)).heap.size := by simp
        obtain ⟨Y2, eY⟩ : ∃ Y2, y1.alloc (.cells #[.slice (some ⟨gv, 0, none⟩) N cv] 33) = Y2 := ⟨_, rfl⟩
        rw [eY] at kG o2 c14 sz
        have EY := Lib.hid eY
        clear eY
        have cr := OwnU.cell o2 r hr
        have zr := Own.free (f := Value.int .u64) (e := 23) (OwnU.lower o2 (Nat.zero_le _)) r
        obtain ⟨y, ey⟩ : ∃ y, (x :: z).getD r 0 = y := ⟨_, rfl⟩
        have uy : U64 y := by rw [← ey]; exact uz r
        obtain ⟨o, qx, eo, eq, hq, uq⟩ := xor_ne y a4 uy u4
        rw [ey] at cr
        clear er0 xl
        go_wp2_with fail
        rw [EY.out]
        go_still_tail 12, (by kernel_rfl)
        change wpList _ _ _ _ _ (World.drew _)
        have kD := (kG.drew).mono (T := fun _ => False) (by simp)
        have oD := OwnU.keep o2 (Keep.refl (fun _ => False) _).drew (by simp)
        have oS : OwnU 0 _ _ _ := Own.set (f := Value.int .u64) (e := 23) (OwnU.lower oD (Nat.zero_le _)) r qx
        have cD : Y2.drew.cell? ⟨y1.heap.size, 0, none⟩ = some (.slice (some ⟨gv, 0, none⟩) N cv) := c14
        have hne : gv ≠ y1.heap.size := by omega
        have cS : (Y2.drew.setCell ⟨gv, r, none⟩ (.int .u64 qx)).cell? ⟨y1.heap.size, 0, none⟩ = some (.slice (some ⟨gv, 0, none⟩) N cv) := by
          rw [World.cell?_setCell_other _ _ _ _ (by first | (simp; done) | (simp; omega))]
          exact cD
        have kS : Keep (fun j => j = gv) w5 (Y2.drew.setCell ⟨gv, r, none⟩ (.int .u64 qx)) := Keep.setCell (S := fun j => j = gv) (kD.mono (by simp)) (p := ⟨gv, r, none⟩) rfl _
        have fS : ∀ g, gv = g → ¬ S3 g ∧ W.heap.size ≤ g := fun g hg => by subst hg; exact ⟨fun x => by have := h6.lt _ x; omega, by omega⟩
        have H1 := h6.own kS (fun g hg => fS g hg.symm)
        have H2 := h5.own kS (fun g hg => ⟨fun x => by have := h5.lt g x; have hg : g = gv := hg; omega, (fS g (Eq.symm hg)).2⟩)
        have nb : ∀ b, (Value.slice (some ⟨gv, 0, none⟩) N cv).ownBlock = some b → ¬ b < w5.heap.size := fun b hb h => by
          have hb : gv = b := by simpa [Value.ownBlock] using hb
          omega
        have qo : ∀ S : Nat → Prop, (∀ j, S j → j < w5.heap.size) → QO y1.heap.size (.slice (some ⟨gv, 0, none⟩) N cv) ((x :: z).set r qx) (Y2.drew.setCell ⟨gv, r, none⟩ (.int .u64 qx)) S := fun S hS =>
          ⟨cS, oS, fun h => by have := hS _ h; omega, fun b hb h => nb b hb (hS _ h)⟩
        have q1 := qo S3 h6.lt
        have q2 := qo S5 h5.lt
        have ne : decide (x :: z = (x :: z).set r qx) = false := decide_eq_false (fun e => hq (by
          rw [← ey]
          have := congrArg (fun l : List Int => l.getD r 0) e
          simp only [List.getD_eq_getElem?_getD, List.getElem?_set_self hr] at this ⊢
          rw [this]; rfl))
        have ol : ((x :: z).set r qx).length ≤ 100000 := by rw [List.length_set]; omega
        obtain ⟨other, eo2⟩ : ∃ other, (x :: z).set r qx = other := ⟨_, rfl⟩
        rw [eo2] at q1 q2 ne ol
        have cR := OwnU.cell oD r hr
        rw [ey] at cR
        clear o1 o2 oD oS cS cD kG kD kS fS qo nb eo2 h6 h5 k1 hq uy
        go_wp2_with fail
        have H3a := H1
        refine (jall_any H1 (Q := fun _ _ => True) trivial (fun _ _ _ _ => trivial) (isNow c6 (by omega) u1) spn_nil 2 _ _ F1).mono ?_
        rintro e y1 ⟨rfl, S6, H3, k6⟩
        obtain ⟨H4, e4⟩ := rd_beside H1 H2 (fun g hg hh => e3 g hh hg) H3 k6
        obtain ⟨q3, q4⟩ := q2.turn q1 k6
        clear H3a H1 H2 q1 q2 k6
        go_wp2_with fail
        refine (jall_any H3 (Q := fun _ _ => True) trivial (fun _ _ _ _ => trivial) (isNow c6 (by omega) u1) spn_nil 3 _ _ F2.out).mono ?_
        rintro e y2 ⟨rfl, S7, H5, k7⟩
        obtain ⟨H6, e5⟩ := rd_beside H3 H4 e4 H5 k7
        obtain ⟨q5, q6⟩ := q3.turn q4 k7
        clear H3 H4 q3 q4 k7
        go_wp2_with fail
        refine (jall_any H6 q5 QO.stay now_nil (isTwo ol) 2 _ _ (F3 _)).mono ?_
        rintro e y3 ⟨rfl, S8, H7, k8⟩
        have q7 := (q5.turn q5 k8).2
        clear H6 q5 q6 k8 H5
        go_wp2_with fail
        refine (jall_any H7 q7 QO.stay now_nil (isTwo ol) 3 _ _ (F4 _ ne)).mono ?_
        rintro e y4 ⟨rfl, S9, H8, k9⟩
        clear H7 q7 k9
        go_wp2_with fail
        refine (jall_any H8 (Q := fun _ _ => True) trivial (fun _ _ _ _ => trivial) now_nil (isThree (by omega) c7 g7 LW) 3 _ _ F5).mono ?_
        rintro e y5 ⟨rfl, S10, H9, k10⟩
        have c6y := (H9.b.cell (p := ⟨g, 0, none⟩) (by show g < _; omega)).trans c6
        have b9 := bA.trans (H9.b.mono bA.size)
        clear H8 H9 k10
        go_wp2_with (go_at_call 13; refine (awake15_any _).mono ?_; rintro e w' ⟨rfl, bel⟩)
        go_ret
        exact ⟨rfl, b9.trans (bel.mono b9.size)⟩
theorem own : ownKnob Try.prog.godebug = none := by kernel_rfl
theorem laidOut : laidOutB Try.prog = true := by kernel_rfl
set_option maxRecDepth 100000 in
theorem lifted (os : Os) (started : os.Started) (H : Type) (enc : TypeId × Value → H) :
    ReturnsInHanded {} Try.checked os 4 .any (Rows.judgeMissingSpec.pre6 enc Try.prog Try.f4 Rows.judgeMissingRow.domain false) (Rows.judgeMissingSpec.post enc Try.prog Try.f4 false true false false) := by
  refine returnsInHanded_of_change (C := Try.checked) own started (by kernel_rfl) Try.func4
    (ChangeSpec.witness6 (enc := enc) (C := Try.checked) false ⟨#[], #[.int .i64 0, .int .u64 0, .slice none 0 0, .int .i64 0, .int .u64 0], []⟩ 8 (by kernel_rfl) (by kernel_rfl) (by kernel_rfl) (by kernel_rfl)) ?_
  intro W base args ds gs before hval0 hW hcnd _
  have hval : ∀ (j : Nat) t v, Try.f4.params[j]? = some t → args[j]? = some v → Value.okWide Try.prog W .any base t v := hval0
  have hW' := hW
  obtain ⟨p, q, hA0, hV, rfl, hfz, hnd⟩ := hW
  have hA : DataW.TrodAll enc Try.prog W 0 (fun _ => true) true Try.f4.params.toList args.toList ds p := hA0
  rw [Try.params4] at hA hval
  obtain ⟨v0, vs0, d0, ds0, p0, q0, hargs, rfl, rfl, h0, r0⟩ := trodAll_cons hA
  obtain ⟨v1, vs1, d1, ds1, p1, q1, rfl, rfl, rfl, h1, r1⟩ := trodAll_cons r0
  obtain ⟨v2, vs2, d2, ds2, p2, q2, rfl, rfl, rfl, h2, r2⟩ := trodAll_cons r1
  obtain ⟨v3, vs3, d3, ds3, p3, q3, rfl, rfl, rfl, h3, r3⟩ := trodAll_cons r2
  obtain ⟨v4, vs4, d4, ds4, p4, q4, rfl, rfl, rfl, h4, r4⟩ := trodAll_cons r3
  obtain ⟨rfl, rfl, rfl⟩ := trodAll_nil r4
  obtain rfl : args = #[v0, v1, v2, v3, v4] := by cases args; simp_all
  obtain ⟨rfl, rfl⟩ := trodVars_none hV
  obtain ⟨a0, rfl, rfl, rfl, w0⟩ := open_int Try.underlying3 (hval 0 3 v0 rfl rfl) h0
  obtain ⟨a1, rfl, rfl, rfl, w1⟩ := open_int Try.underlying23 (hval 1 23 v1 rfl rfl) h1
  obtain ⟨a2, len2, cap2, rfl⟩ := okWide_slice Try.underlying33 (hval 2 33 v2 rfl rfl)
  have k2 := h2
  have lt2 : ∀ x ∈ p2, x.block < W.heap.size := by obtain ⟨m, hm⟩ := k2; exact DataW.trod_lt m _ _ _ hm
  obtain ⟨z2, w2⟩ : ∃ f, RowZ W a2 len2 cap2 f := is_rowz h2
  obtain ⟨a3, rfl, rfl, rfl, w3⟩ := open_int Try.underlying3 (hval 3 3 v3 rfl rfl) h3
  obtain ⟨a4, rfl, rfl, rfl, w4⟩ := open_int Try.underlying23 (hval 4 23 v4 rfl rfl) h4
  clear hA0 hval0
  refine (walk a0 a1 a2 len2 cap2 z2 a3 a4 W w0 w1 w2 w3 w4).mono fun e W' ⟨he, bel⟩ => ?_
  subst he
  exact ⟨_, rfl, _, _, _, [], _, [], hW', trodAll_mk1 (shut_bool Try.underlying4 _), (trodAll_cons_mk (shut_int Try.underlying3 w0) (trodAll_cons_mk (shut_int Try.underlying23 w1) (trodAll_cons_mk (Below.trod laidOut (by kernel_rfl) (of_decide_eq_true (by kernel_rfl)) k2 bel lt2) (trodAll_cons_mk (shut_int Try.underlying3 w3) (trodAll_cons_mk (shut_int Try.underlying23 w4) trodAll_mk0))))), rfl, bel.frame _, fun h => by cases h⟩
theorem over : Rows.judgeMissingRow.holds Try.pinned (OpenSpec.ofChange Rows.judgeMissingSpec) :=
  OpenClaim.holds_of_wide 4 Try.f4 rfl rfl rfl rfl rfl rfl rfl ⟨rfl, rfl, rfl, rfl, rfl⟩ rfl rfl rfl rfl rfl (by kernel_rfl) Try.func4 (by kernel_rfl)
    (of_decide_eq_true (by kernel_rfl)) (by unfold Func.isWrapper; first | (rw [if_pos (by decide +kernel)]; kernel_rfl) | (rw [if_neg (by decide +kernel)]; exact ⟨rfl, rfl⟩))
    (fun os started H enc _ => lifted os started H enc)
theorem proved : Rows.JudgeMissingSaid := over
end Go.Proofs.Ytndpifkpgoeogaa.judgeMissing
