/- Contracts of the document's own answer for layer 5 (vinculumref3's Can and Table): Can, there, Turn, End; conditions: the Table is one that calls have made of an empty one. -/
import Derived.Test.YtodmpmnjkfnogaaOwnM
import Derived.Test.YtodmpmnjkfnogaaTb
import Derived.Deep.QuietTactic
import Derived.BigQuiet
import Derived.StillTailTactics
namespace Go.Proofs.Ytodmpmnjkfnogaa
open Go.ChangeShapes Go.WideShapes Go.ChangeAt Go.RowKit
set_option linter.unusedVariables false

def txC (x : Tx) : List Value := [.int .i64 x.lv, .int .i64 x.st, .int .u64 x.b, .int .u64 x.e]
abbrev txO (y : Tx) : Obj := .cells #[.int .i64 y.lv, .int .i64 y.st, .int .u64 y.b, .int .u64 y.e] 32
theorem txC_len (x : Tx) : (txC x).length = 4 := rfl
structure RT (w : World) (p : Nat) (v : Value) (s : TS) : Prop where
  c0 : w.cell? ⟨p, 0, none⟩ = some (.int .i64 s.most)
  c1 : w.cell? ⟨p, 1, none⟩ = some v
  fz : ∀ i, w.frozen? ⟨p, i, none⟩ = false
  ow : OwnM 4 txC 32 w v s.l
  ne : v.ownBlock ≠ some p
def FootT (p : Nat) (v : Value) (k : Nat) : Prop := k = p ∨ v.ownBlock = some k
section
variable {w w' : World} {p : Nat} {v : Value} {s : TS}
theorem RT.keep {S : Nat → Prop} (h : RT w p v s) (k : Keep S w w') (hn : ∀ g, FootT p v g → ¬ S g) : RT w' p v s :=
  have np : ¬ S p := hn p (.inl rfl)
  ⟨k.cell h.c0 np, k.cell h.c1 np, fun i => (k.frozen (a := ⟨p, i, none⟩) (lt_of_cell (a := ⟨p, 0, none⟩) h.c0) np).trans (h.fz i), h.ow.keep k (fun g hg => hn g (.inr hg)), h.ne⟩
theorem RT.foot_lt (h : RT w p v s) (k : Nat) (hk : FootT p v k) : k < w.heap.size := by
  rcases hk with rfl | hk
  · exact lt_of_cell (a := ⟨k, 0, none⟩) h.c0
  · exact h.ow.lt hk
/-- The slice's form: how long it is, and where it lies. -/
theorem RT.form (h : RT w p v s) : (v = .slice none 0 0 ∧ s.l = []) ∨ ∃ g c, v = .slice (some ⟨g, 0, none⟩) s.l.length c ∧ g < w.heap.size ∧ g ≠ p := by
  rcases h.ow.form with ⟨e, z⟩ | ⟨g, c, rfl, l, _⟩
  · exact .inl ⟨e, z⟩
  · exact .inr ⟨g, c, rfl, l, fun e => h.ne (by subst e; rfl)⟩
theorem TS.tx_get (s : TS) (i : Nat) (h : i < s.l.length) : s.l[i] = s.tx i := by simp [TS.tx, List.getD_eq_getElem?_getD, h]
theorem RT.cells {g c : Nat} (h : RT w p (.slice (some ⟨g, 0, none⟩) s.l.length c) s) (i : Nat) (hi : i < s.l.length) :
    w.cell? ⟨g, i * 4, none⟩ = some (.int .i64 (s.tx i).lv) ∧ w.cell? ⟨g, i * 4 + 1, none⟩ = some (.int .i64 (s.tx i).st) ∧ w.cell? ⟨g, i * 4 + 2, none⟩ = some (.int .u64 (s.tx i).b) ∧ w.cell? ⟨g, i * 4 + 3, none⟩ = some (.int .u64 (s.tx i).e) := by
  have h0 := h.ow.cell txC_len i 0 hi (by omega)
  have h1 := h.ow.cell txC_len i 1 hi (by omega)
  have h2 := h.ow.cell txC_len i 2 hi (by omega)
  have h3 := h.ow.cell txC_len i 3 hi (by omega)
  rw [TS.tx_get s i hi] at h0 h1 h2 h3
  exact ⟨h0, h1, h2, h3⟩
theorem RT.setS {g c : Nat} (h : RT w p (.slice (some ⟨g, 0, none⟩) s.l.length c) s) (i : Nat) (hi : i < s.l.length) (y : Int) : RT (w.setCell ⟨g, i * 4 + 1, none⟩ (.int .i64 y)) p (.slice (some ⟨g, 0, none⟩) s.l.length c) (s.put i { s.tx i with st := y }) := by
  have hne : g ≠ p := fun e => h.ne (by subst e; rfl)
  refine ⟨?_, ?_, fun j => by simpa using h.fz j, ?_, h.ne⟩
  · rw [World.cell?_setCell_other _ _ _ _ (by intro e; exact hne (congrArg Addr.block e))]; exact h.c0
  · rw [World.cell?_setCell_other _ _ _ _ (by intro e; exact hne (congrArg Addr.block e))]; exact h.c1
  · exact h.ow.set txC_len i 1 hi (by omega) _ _ (by rw [TS.tx_get s i hi]; rfl)
theorem RT.setE {g c : Nat} (h : RT w p (.slice (some ⟨g, 0, none⟩) s.l.length c) s) (i : Nat) (hi : i < s.l.length) (y : Int) : RT (w.setCell ⟨g, i * 4 + 3, none⟩ (.int .u64 y)) p (.slice (some ⟨g, 0, none⟩) s.l.length c) (s.put i { s.tx i with e := y }) := by
  have hne : g ≠ p := fun e => h.ne (by subst e; rfl)
  refine ⟨?_, ?_, fun j => by simpa using h.fz j, ?_, h.ne⟩
  · rw [World.cell?_setCell_other _ _ _ _ (by intro e; exact hne (congrArg Addr.block e))]; exact h.c0
  · rw [World.cell?_setCell_other _ _ _ _ (by intro e; exact hne (congrArg Addr.block e))]; exact h.c1
  · exact h.ow.set txC_len i 3 hi (by omega) _ _ (by rw [TS.tx_get s i hi]; rfl)
/-- The value r; the Table now in state s; only its own blocks, and new ones, have turned. -/
def RTPost (r : Value) (p : Nat) (v : Value) (s : TS) (w : World) (e : Ending) (w' : World) : Prop :=
  e = .returned r ∧ ∃ v', RT w' p v' s ∧ Keep (FootT p v) w w' ∧ ∀ k, v'.ownBlock = some k → v.ownBlock = some k ∨ w.heap.size ≤ k
theorem RTPost.same (h : RT w p v s) {r : Value} {e : Ending} (he : e = .returned r) (k : Keep (fun _ => False) w w') : RTPost r p v s w e w' :=
  ⟨he, v, h.keep k (by simp), k.mono (by simp), fun k hk => .inl hk⟩
theorem canr_any (f t : Int) (w : World) : Calls Try.prog 24 #[.int .i64 f, .int .i64 t] w fun e w' => e = .returned (.bool (canI f t)) ∧ w = w' := by
  obtain ⟨r, er⟩ : ∃ r, canI f t = r := ⟨_, rfl⟩
  rw [er]
  unfold canI at er
  rcases (by omega : f = 1 ∨ f = 2 ∨ f = 3 ∨ f = 4 ∨ ¬ (1 ≤ f ∧ f ≤ 4)) with rfl | rfl | rfl | rfl | hf
  · rcases (by omega : t = 2 ∨ t = 4 ∨ (t ≠ 2 ∧ t ≠ 4)) with rfl | rfl | ⟨h1, h2⟩
    · obtain rfl : true = r := by simpa using er
      clear er
      go_enter Try.func24, Try.ntmps24
      go_wp2
      go_ret
      exact ⟨rfl, rfl⟩
    · obtain rfl : true = r := by simpa using er
      clear er
      go_enter Try.func24, Try.ntmps24
      go_wp2
      go_ret
      exact ⟨rfl, rfl⟩
    · have q1 : (t == 2) = false := by simpa using h1
      have q2 : (t == 4) = false := by simpa using h2
      obtain rfl : false = r := by simpa [q1, q2] using er
      clear er
      go_enter Try.func24, Try.ntmps24
      go_wp2
      go_ret
      exact ⟨rfl, rfl⟩
  · rcases (by omega : t = 3 ∨ t = 4 ∨ (t ≠ 3 ∧ t ≠ 4)) with rfl | rfl | ⟨h1, h2⟩
    · obtain rfl : true = r := by simpa using er
      clear er
      go_enter Try.func24, Try.ntmps24
      go_wp2
      go_ret
      exact ⟨rfl, rfl⟩
    · obtain rfl : true = r := by simpa using er
      clear er
      go_enter Try.func24, Try.ntmps24
      go_wp2
      go_ret
      exact ⟨rfl, rfl⟩
    · have q1 : (t == 3) = false := by simpa using h1
      have q2 : (t == 4) = false := by simpa using h2
      obtain rfl : false = r := by simpa [q1, q2] using er
      clear er
      go_enter Try.func24, Try.ntmps24
      go_wp2
      go_ret
      exact ⟨rfl, rfl⟩
  · by_cases h1 : t = 5
    · subst h1
      obtain rfl : true = r := by simpa using er
      clear er
      go_enter Try.func24, Try.ntmps24
      go_wp2
      go_ret
      exact ⟨rfl, rfl⟩
    · have q1 : (t == 5) = false := by simpa using h1
      obtain rfl : false = r := by simpa [q1] using er
      clear er
      go_enter Try.func24, Try.ntmps24
      go_wp2
      go_ret
      exact ⟨rfl, rfl⟩
  · by_cases h1 : t = 5
    · subst h1
      obtain rfl : true = r := by simpa using er
      clear er
      go_enter Try.func24, Try.ntmps24
      go_wp2
      go_ret
      exact ⟨rfl, rfl⟩
    · have q1 : (t == 5) = false := by simpa using h1
      obtain rfl : false = r := by simpa [q1] using er
      clear er
      go_enter Try.func24, Try.ntmps24
      go_wp2
      go_ret
      exact ⟨rfl, rfl⟩
  · have q1 : (f == 1) = false := by rw [beq_eq_false_iff_ne]; omega
    have q2 : (f == 2) = false := by rw [beq_eq_false_iff_ne]; omega
    have q3 : (f == 3) = false := by rw [beq_eq_false_iff_ne]; omega
    have q4 : (f == 4) = false := by rw [beq_eq_false_iff_ne]; omega
    obtain rfl : false = r := by rw [if_neg (by omega), if_neg (by omega), if_neg (by omega)] at er; exact er
    clear er
    go_enter Try.func24, Try.ntmps24
    go_wp2
    go_ret
    exact ⟨rfl, rfl⟩
theorem rthere_in (h : RT w p v s) (i : Nat) (hi : i < s.l.length) : Calls Try.prog 33 #[.pointer (some ⟨p, 0, none⟩), .int .i64 ((i : Int) + 1)] w fun e w' => e = .returned (.bool true) ∧ w = w' := by
  have g1 := h.c1
  rcases h.form with ⟨_, z⟩ | ⟨g, c, rfl, _⟩
  · rw [z] at hi; simp at hi
  · have d1 : decide ((i : Int) + 1 ≤ (s.l.length : Int)) = true := decide_eq_true (by omega)
    go_enter Try.func33, Try.ntmps33
    go_wp2
    go_ret
    exact ⟨rfl, rfl⟩
theorem rthere_out (h : RT w p v s) (id : Int) (ho : s.out id) : Calls Try.prog 33 #[.pointer (some ⟨p, 0, none⟩), .int .i64 id] w fun e w' => e = .returned (.bool false) ∧ w = w' := by
  have g1 := h.c1
  unfold TS.out at ho
  rcases h.form with ⟨rfl, z⟩ | ⟨g, c, rfl, _⟩
  · rw [z] at ho
    rcases (by simp at ho; omega : id < 1 ∨ (¬ id < 1 ∧ 0 < id)) with ho | ⟨ho, h2⟩
    · go_enter Try.func33, Try.ntmps33
      go_wp2
      go_ret
      exact ⟨rfl, rfl⟩
    · have d1 : decide (id ≤ 0) = false := decide_eq_false (by omega)
      go_enter Try.func33, Try.ntmps33
      go_wp2
      go_ret
      exact ⟨rfl, rfl⟩
  · rcases (by omega : id < 1 ∨ (¬ id < 1 ∧ (s.l.length : Int) < id)) with ho | ⟨ho, h2⟩
    · go_enter Try.func33, Try.ntmps33
      go_wp2
      go_ret
      exact ⟨rfl, rfl⟩
    · have d1 : decide (id ≤ (s.l.length : Int)) = false := decide_eq_false (by omega)
      go_enter Try.func33, Try.ntmps33
      go_wp2
      go_ret
      exact ⟨rfl, rfl⟩
end
end Go.Proofs.Ytodmpmnjkfnogaa
