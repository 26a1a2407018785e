/- The contracts of package pool as the laws want them: a Pool in its blocks and in its state; what each call answers, in which state it leaves the Pool, and that it turns the Pool's own blocks alone; condition: a state that calls can bring about. -/
import Derived.Test.YtmfpjnlplimkeaaGreatPoolG
import Derived.Test.YtmfpjnlplimkeaaGreatPoolN
import Derived.Test.YtmfpjnlplimkeaaGreatPoolE
namespace Go.Proofs.YtmfpjnlplimkeaaGreat
open Go.ChangeShapes Go.WideShapes Go.ChangeAt Go.RowKit
set_option linter.unusedVariables false

theorem Free.keep {w w' : World} {p b1 : Nat} {s : St} {d : Int} {vf : Value} {T : Nat → Prop} (h : Free w p b1 s d vf) (k : Keep T w w') (hn : ∀ g, vf.ownBlock = some g → ¬ T g) : Free w' p b1 s d vf := by
  cases h with
  | not hg hf => exact .not hg hf
  | made b2 o q1 q2 => exact .made b2 (o.keep k hn) q1 q2
/-- A Pool at block p, in the blocks S, in state s. -/
def PoolAt (w : World) (p : Nat) (S : Nat → Prop) (s : St) : Prop :=
  ∃ b1 d vf, Core w p b1 d 0 vf (cnt s.taken) s ∧ Free w p b1 s d vf ∧ ∀ k, S k ↔ (k = p ∨ k = b1 ∨ vf.ownBlock = some k)
theorem PoolAt.keep {w w' : World} {p : Nat} {S T : Nat → Prop} {s : St} (h : PoolAt w p S s) (k : Keep T w w') (hn : ∀ g, S g → ¬ T g) : PoolAt w' p S s := by
  obtain ⟨b1, d, vf, c, f, hS⟩ := h
  exact ⟨b1, d, vf, c.keep k (hn p ((hS p).2 (.inl rfl))) (hn b1 ((hS b1).2 (.inr (.inl rfl)))), f.keep k (fun g hg => hn g ((hS g).2 (.inr (.inr hg)))), hS⟩
theorem PoolAt.lt {w : World} {p : Nat} {S : Nat → Prop} {s : St} (h : PoolAt w p S s) (k : Nat) (hk : S k) : k < w.heap.size := by
  obtain ⟨b1, d, vf, c, f, hS⟩ := h
  rcases (hS k).1 hk with rfl | rfl | hk
  · exact c.lp
  · exact c.lb
  · cases f with
    | not => simp [Value.ownBlock] at hk
    | made b2 o => exact o.lt hk
/-- The value v; the Pool now in state s; only its own blocks, and new ones, have turned. -/
def PPost (v : Value) (p : Nat) (S : Nat → Prop) (s : St) (w : World) (e : Ending) (w' : World) : Prop :=
  e = .returned v ∧ ∃ S', PoolAt w' p S' s ∧ Keep S w w' ∧ ∀ k, S' k → S k ∨ w.heap.size ≤ k
def PNew (n : Nat) (most : Int) (w : World) (e : Ending) (w' : World) : Prop :=
  ∃ p S, e = .returned (.tuple #[.pointer (some ⟨p, 0, none⟩), .int .i64 0]) ∧ PoolAt w' p S (St.new n most) ∧ (∀ k, S k → w.heap.size ≤ k) ∧ Below w.heap.size w w'
def PAll (zs : List Int) (p : Nat) (S : Nat → Prop) (s : St) (w : World) (e : Ending) (w' : World) : Prop :=
  ∃ v S', e = .returned v ∧ w'.ownsRow w.heap.size 32 1 v zs.length (zs.map (Value.int .u64)) ∧ PoolAt w' p S' s ∧ Keep S w w' ∧ (∀ k, S' k → S k ∨ w.heap.size ≤ k) ∧ ∀ g, v.ownBlock = some g → ¬ S' g
theorem pnew_no (n m : Int) (w : World) (h : n < 1 ∨ (¬ n < 1 ∧ 4096 < n) ∨ (¬ n < 1 ∧ ¬ 4096 < n ∧ m < 0) ∨ (¬ n < 1 ∧ ¬ 4096 < n ∧ ¬ m < 0 ∧ 65535 < m)) : Calls Tryz.prog 21 #[.int .i64 n, .int .i64 m] w fun e w' => e = .returned (.tuple #[.pointer none, .int .i64 1]) ∧ w = w' := qnew_no n m w h
theorem pnew_ok (n : Nat) (m : Int) (w : World) (h0 : 1 ≤ n) (h1 : n ≤ 4096) (m0 : 0 ≤ m) (m1 : m ≤ 65535) : Calls Tryz.prog 21 #[.int .i64 n, .int .i64 m] w (PNew n m w) := by
  refine (qnew_ok n m w h0 h1 m0 m1).mono ?_
  rintro e w' ⟨p, b1, rfl, c, lp, lb, bl⟩
  refine ⟨p, fun k => k = p ∨ k = b1, rfl, ⟨b1, 0, _, ?_, .not rfl rfl, fun k => by simp [Value.ownBlock]⟩, fun k hk => by rcases hk with rfl | rfl <;> assumption, bl⟩
  rw [show cnt (St.new n m).taken = 0 from cnt_rep n]
  exact c
section
variable {w : World} {p : Nat} {S : Nat → Prop} {s : St}
theorem stack_len (ok : Ok s) : (s.stack.length : Int) = s.tags.length - cnt s.taken - s.worn := by
  have ct := ok.ct
  have f0 := ok.f0
  have f1 := ok.f1
  simp [St.stack]
  omega
theorem cnt_b (ok : Ok s) : 0 ≤ cnt s.taken ∧ cnt s.taken ≤ 4096 := by
  have := cnt_nonneg s.taken
  have := cnt_le s.taken
  have := ok.tl
  have := ok.n1
  omega
theorem stack_b (ok : Ok s) : s.stack.length ≤ 4096 := by
  have := stack_len ok
  have := cnt_b ok
  have := ok.w0
  have := ok.n1
  omega
theorem cnt_take (ok : Ok s) {i : Nat} (hi : i < s.tags.length) (hk : s.tk i = false) : cnt (s.taken.set i true) = cnt s.taken + 1 := by
  have := cnt_set s.taken i (by rw [ok.tl]; exact hi) true
  have hk' : s.taken.getD i false = false := hk
  simp only [hk'] at this
  simpa using this
theorem cnt_give (ok : Ok s) {i : Nat} (hi : i < s.tags.length) (hk : s.tk i = true) : cnt (s.taken.set i false) = cnt s.taken - 1 := by
  have := cnt_set s.taken i (by rw [ok.tl]; exact hi) false
  have hk' : s.taken.getD i false = true := hk
  simp only [hk'] at this
  simpa using this
theorem stack_given {gs : List Int} {i : Nat} (hg : s.given = gs ++ [(i : Int)]) : s.stack = ({ s with taken := s.taken.set i true, given := gs } : St).stack ++ [(i : Int)] := by
  simp [St.stack, hg]
theorem stack_fresh {i : Nat} (hg : s.given = []) (hi : s.fresh = i) (hf : i < s.tags.length) : s.stack = ({ s with taken := s.taken.set i true, fresh := (i : Int) + 1 } : St).stack ++ [(i : Int)] := by
  have e : s.tags.length - i = s.tags.length - (i + 1) + 1 := by omega
  have e2 : ((i : Int) + 1).toNat = i + 1 := by omega
  simp only [St.stack, hg, hi, Int.toNat_natCast, e, e2, List.range_succ, List.map_append, List.append_nil]
  simp
  omega
theorem stack_full (hg : s.given = []) (hf : s.fresh = s.tags.length) : s.stack = [] := by simp [St.stack, hg, hf]
theorem ptop (h : PoolAt w p S s) (ok : Ok s) (s' : St) (i : Nat) (hs : s.stack = s'.stack ++ [(i : Int)]) (hi : i < s.tags.length) (hk : s.tk i = false) (gs : List Int) (fr : Int) (e : s' = { s with taken := s.taken.set i true, given := gs, fresh := fr }) :
    Calls Tryz.prog 28 #[.pointer (some ⟨p, 0, none⟩)] w (PPost (.tuple #[.int .u64 (s.link i), .int .i64 0]) p S s' w) := by
  obtain ⟨b1, d, vf, c, f, hS⟩ := h
  have cb := cnt_b ok
  have sb := stack_b ok
  have ce := cnt_take ok hi hk
  have sl : s'.stack.length ≤ 4096 := by rw [hs] at sb; simp at sb; omega
  refine (qtake_top c f ok cb.1 cb.2 s'.stack i hs sl hi).mono ?_
  rintro e1 w' ⟨rfl, b2, c2, o, q1, q2, k, g⟩
  have tl : s'.tags.length = s.tags.length := by rw [e]
  have c3 : Core w' p b1 1 0 (.slice (some ⟨b2, 0, none⟩) s'.stack.length s.tags.length) (cnt s'.taken) s' := by
    rw [show cnt s'.taken = cnt s.taken + 1 by rw [e]; exact ce]
    have := (c2.cutGiven gs).fresh fr
    rw [show ({ s with taken := s.taken.set i true, given := gs, fresh := fr } : St) = s' from e.symm] at this
    exact this
  rw [← tl] at c3 o
  refine ⟨rfl, fun k => k = p ∨ k = b1 ∨ k = b2, ⟨b1, 1, _, c3, .made b2 o q1 q2, fun k => by simp [Value.ownBlock, eq_comm]⟩, k.mono (fun k hk => (hS k).2 (by rcases hk with hk | hk; exact .inl hk; exact .inr (.inl hk))), ?_⟩
  rintro k (hk | hk | rfl)
  · exact .inl ((hS k).2 (.inl hk))
  · exact .inl ((hS k).2 (.inr (.inl hk)))
  · rcases g with g | g
    · exact .inl ((hS k).2 (.inr (.inr g)))
    · exact .inr g
theorem ptake_given (h : PoolAt w p S s) (ok : Ok s) (gs : List Int) (i : Nat) (hg : s.given = gs ++ [(i : Int)]) : Calls Tryz.prog 28 #[.pointer (some ⟨p, 0, none⟩)] w (PPost (.tuple #[.int .u64 (s.link i), .int .i64 0]) p S { s with taken := s.taken.set i true, given := gs } w) := by
  obtain ⟨hi, hk, _⟩ := ok_takeGiven ok hg
  exact ptop h ok _ i (stack_given hg) hi hk gs s.fresh rfl
theorem ptake_fresh (h : PoolAt w p S s) (ok : Ok s) (hg : s.given = []) (i : Nat) (hi : s.fresh = i) (hf : i < s.tags.length) : Calls Tryz.prog 28 #[.pointer (some ⟨p, 0, none⟩)] w (PPost (.tuple #[.int .u64 (s.link i), .int .i64 0]) p S { s with taken := s.taken.set i true, fresh := (i : Int) + 1 } w) :=
  ptop h ok _ i (stack_fresh hg hi hf) hf (ok.ft i (by omega)) s.given ((i : Int) + 1) rfl
theorem ptake_full (h : PoolAt w p S s) (ok : Ok s) (hg : s.given = []) (hf : s.fresh = s.tags.length) : Calls Tryz.prog 28 #[.pointer (some ⟨p, 0, none⟩)] w (PPost (.tuple #[.int .u64 0, .int .i64 15]) p S s w) := by
  obtain ⟨b1, d, vf, c, f, hS⟩ := h
  refine (qtake_full c f ok (stack_full hg hf)).mono ?_
  rintro e1 w' ⟨rfl, b2, c2, o, q1, q2, k, g⟩
  refine ⟨rfl, fun k => k = p ∨ k = b1 ∨ k = b2, ⟨b1, 1, _, c2, .made b2 o q1 q2, fun k => by simp [Value.ownBlock, eq_comm]⟩, k.mono (fun k hk => (hS k).2 (by rcases hk with hk | hk; exact .inl hk; exact .inr (.inl hk))), ?_⟩
  rintro k (hk | hk | rfl)
  · exact .inl ((hS k).2 (.inl hk))
  · exact .inl ((hS k).2 (.inr (.inl hk)))
  · rcases g with g | g
    · exact .inl ((hS k).2 (.inr (.inr g)))
    · exact .inr g
theorem PPost.same (h : PoolAt w p S s) {v : Value} {e : Ending} {w' : World} (he : e = .returned v) (hw : w = w') : PPost v p S s w e w' := by
  subst hw
  exact ⟨he, S, h, Keep.refl _ _, fun k hk => .inl hk⟩
/-- Where a slot is taken the list is made. -/
theorem list_made {b1 : Nat} {d : Int} {vf : Value} (f : Free w p b1 s d vf) (ok : Ok s) {i : Nat} (ht : s.tk i = true) :
    d = 1 ∧ ∃ b2, vf = .slice (some ⟨b2, 0, none⟩) s.stack.length s.tags.length ∧ OwnP w (.slice (some ⟨b2, 0, none⟩) s.stack.length s.tags.length) s.stack ∧ p ≠ b2 ∧ b1 ≠ b2 := by
  cases f with
  | not hg hf =>
    have := ok.ft i (by omega)
    rw [ht] at this
    cases this
  | made b2 o q1 q2 => exact ⟨rfl, b2, rfl, o, q1, q2⟩
theorem plive_yes (h : PoolAt w p S s) (ok : Ok s) (i : Nat) (hi : i < s.tags.length) (ht : s.tk i = true) : Calls Tryz.prog 50 #[.pointer (some ⟨p, 0, none⟩), .int .u64 (s.link i)] w (PPost (.bool true) p S s w) := by
  obtain ⟨b1, d, vf, c, f, hS⟩ := id h
  exact (qlive_yes c ok i hi ht).mono fun e w' ⟨a, b⟩ => PPost.same h a b
theorem plive_no (h : PoolAt w p S s) (ok : Ok s) (l : Int) (h0 : 0 ≤ l) (h1 : l ≤ 18446744073709551615) (hl : s.live l = false) : Calls Tryz.prog 50 #[.pointer (some ⟨p, 0, none⟩), .int .u64 l] w (PPost (.bool false) p S s w) := by
  obtain ⟨b1, d, vf, c, f, hS⟩ := id h
  exact (qlive_no c ok l h0 h1 hl).mono fun e w' ⟨a, b⟩ => PPost.same h a b
end
end Go.Proofs.YtmfpjnlplimkeaaGreat
