/- The contracts of package table as the laws want them: a Table at a block, in blocks of its own, in a state of plain lists; each call is answered as the plain lists say; conditions: the Table is one that calls have made of an empty one. -/
import Derived.Test.YtodmpmnjkfnogaaTabE
import Derived.Test.YtodmpmnjkfnogaaTabV
namespace Go.Proofs.Ytodmpmnjkfnogaa
open Go.ChangeShapes Go.WideShapes Go.ChangeAt Go.RowKit
set_option linter.unusedVariables false

/-- A Table at block p, in the blocks S, in state s. -/
def TabAt (w : World) (p : Nat) (S : Nat → Prop) (s : TS) : Prop := ∃ v bs, QT w p v bs s ∧ S = PFoot p v bs s.l.length
theorem TabAt.keep {w w' : World} {p : Nat} {S T : Nat → Prop} {s : TS} (h : TabAt w p S s) (k : Keep T w w') (hn : ∀ g, S g → ¬ T g) : TabAt w' p S s := by
  obtain ⟨v, bs, h, rfl⟩ := h
  exact ⟨v, bs, h.keep entL k hn, rfl⟩
theorem TabAt.lt {w : World} {p : Nat} {S : Nat → Prop} {s : TS} (h : TabAt w p S s) (k : Nat) (hk : S k) : k < w.heap.size := by
  obtain ⟨v, bs, h, rfl⟩ := h
  exact h.lt entL k hk
/-- The value r; the Table now in state s; only its own blocks, and new ones, have turned. -/
def TPost (r : Value) (p : Nat) (S : Nat → Prop) (s : TS) (w : World) (e : Ending) (w' : World) : Prop :=
  e = .returned r ∧ ∃ S', TabAt w' p S' s ∧ Keep S w w' ∧ ∀ k, S' k → S k ∨ w.heap.size ≤ k
def TNew (n : Int) (w : World) (e : Ending) (w' : World) : Prop :=
  ∃ p S, e = .returned (.tuple #[.pointer (some ⟨p, 0, none⟩), .int .i64 0]) ∧ TabAt w' p S (TS.new n) ∧ (∀ k, S k → w.heap.size ≤ k) ∧ Below w.heap.size w w'
def TLive (zs : List Int) (p : Nat) (S : Nat → Prop) (s : TS) (w : World) (e : Ending) (w' : World) : Prop :=
  ∃ v S', e = .returned v ∧ OwnN w.heap.size w' v zs ∧ TabAt w' p S' s ∧ Keep S w w' ∧ (∀ k, S' k → S k ∨ w.heap.size ≤ k) ∧ ∀ g, v.ownBlock = some g → ¬ S' g
theorem tnew_ok (n : Int) (w : World) (h0 : 1 ≤ n) (h1 : n ≤ 65535) : Calls Try.prog 8 #[.int .i64 n] w (TNew n w) := by
  refine (tnewL n w h0 h1).mono ?_
  rintro e w' ⟨p, rfl, h, hp, b⟩
  refine ⟨p, _, rfl, ⟨_, _, h, rfl⟩, ?_, b⟩
  rintro k (rfl | hk | ⟨i, hi, _⟩)
  · exact hp
  · simp [Value.ownBlock] at hk
  · simp [TS.new] at hi
section
variable {w : World} {p : Nat} {S : Nat → Prop} {s s' : TS}
theorem QPost.post {r : Value} {v : Value} {bs : List Nat} {e : Ending} {w' : World} (h : QPost r p v bs s s' w e w') : TPost r p (PFoot p v bs s.l.length) s' w e w' := by
  obtain ⟨he, v', bs', h', k, f⟩ := h
  exact ⟨he, _, ⟨v', bs', h', rfl⟩, k, f⟩
theorem tmake_any (h : TabAt w p S s) (ok : TOk s) (lv b : Int) (b0 : 0 ≤ b) : Calls Try.prog 9 #[.pointer (some ⟨p, 0, none⟩), .int .i64 lv, .int .u64 b] w (TPost (.tuple #[.int .i64 (s.make lv b).1, .int .i64 (s.make lv b).2.1]) p S (s.make lv b).2.2 w) := by
  obtain ⟨v, bs, h, rfl⟩ := h
  exact (tmakeL h ok lv b b0).mono (fun e w' q => q.post)
theorem tturn_any (h : TabAt w p S s) (ok : TOk s) (id t : Int) (i1 : id ≤ 9223372036854775807) : Calls Try.prog 11 #[.pointer (some ⟨p, 0, none⟩), .int .i64 id, .int .i64 t] w (TPost (.int .i64 (s.turn id t).1) p S (s.turn id t).2 w) := by
  obtain ⟨v, bs, h, rfl⟩ := h
  exact (tturnL h ok id t i1).mono (fun e w' q => q.post)
theorem tstop_any (h : TabAt w p S s) (ok : TOk s) (id x : Int) (i1 : id ≤ 9223372036854775807) (x0 : 0 ≤ x) : Calls Try.prog 10 #[.pointer (some ⟨p, 0, none⟩), .int .i64 id, .int .u64 x] w (TPost (.int .i64 (s.stop id x).1) p S (s.stop id x).2 w) := by
  obtain ⟨v, bs, h, rfl⟩ := h
  exact (tstopL h ok id x i1 x0).mono (fun e w' q => q.post)
theorem tget_any (h : TabAt w p S s) (ok : TOk s) (id : Int) (i1 : id ≤ 9223372036854775807) : Calls Try.prog 12 #[.pointer (some ⟨p, 0, none⟩), .int .i64 id] w (TPost (s.get id) p S s w) := by
  obtain ⟨v, bs, h, rfl⟩ := h
  exact (tgetL h ok id i1).mono (fun e w' q => q.post)
theorem tlive_any (h : TabAt w p S s) (ok : TOk s) : Calls Try.prog 16 #[.pointer (some ⟨p, 0, none⟩)] w (TLive s.live p S s w) := by
  have hl := h.lt
  obtain ⟨v, bs, h, rfl⟩ := h
  refine (tliveL h ok).mono ?_
  rintro e w' ⟨u, rfl, o, b⟩
  refine ⟨u, _, rfl, o, ⟨v, bs, h.keep entL (Keep.of_below b (fun _ => False)) (by simp), rfl⟩, Keep.of_below b _, fun k hk => .inl hk, fun g hg hk => ?_⟩
  have h1 := (o.lt hg).1
  have h2 := hl g hk
  omega
theorem told_any (h : TabAt w p S s) (ok : TOk s) (now : Int) (n0 : 0 ≤ now) (n1 : now ≤ 18446744073709551615) : Calls Try.prog 14 #[.pointer (some ⟨p, 0, none⟩), .int .u64 now] w (TPost (.int .u64 (s.old now)) p S s w) := by
  obtain ⟨v, bs, h, rfl⟩ := h
  refine (toldL h ok now).mono ?_
  rintro e w' ⟨rfl, rfl⟩
  exact ⟨rfl, _, ⟨v, bs, h, rfl⟩, Keep.refl _ _, fun k hk => .inl hk⟩
theorem tlen_any (h : TabAt w p S s) (ok : TOk s) : Calls Try.prog 20 #[.pointer (some ⟨p, 0, none⟩)] w (TPost (.int .i64 s.l.length) p S s w) := by
  obtain ⟨v, bs, h, rfl⟩ := h
  refine (qlen h).mono ?_
  rintro e w' ⟨rfl, rfl⟩
  exact ⟨rfl, _, ⟨v, bs, h, rfl⟩, Keep.refl _ _, fun k hk => .inl hk⟩
end
end Go.Proofs.Ytodmpmnjkfnogaa
