/- What the statements of layer 15 make of the reads that came in, in plain lists: keys and ranges, and what the set of reads holds. No dump; no condition. -/
import Derived.Test.YtndpifkpgoeogaaRdI
import Derived.Test.YtndpifkpgoeogaaOps15
namespace Go.Proofs.Ytndpifkpgoeogaa
set_option linter.unusedVariables false

/-- A range's ends in order. -/
def loN (x : OpI) : Int := if x.hi % 64 < x.lo % 64 then x.hi % 64 else x.lo % 64
def hiN (x : OpI) : Int := if x.hi % 64 < x.lo % 64 then x.lo % 64 else x.hi % 64
/-- What the law's lists say of the set. -/
structure I15 (W : World) (s : RdS) (ks ss : List OpI) (n : Nat) : Prop where
  e1 : s.keys = ks.map OpI.lo
  e2 : s.links = ks.map OpI.link
  e3 : s.scans = ss.map (fun x => ⟨x.lo, x.hi, x.z⟩)
  kb : ∀ x ∈ ks, 0 ≤ x.lo ∧ x.lo ≤ 63 ∧ 0 ≤ x.link ∧ x.link ≤ 3
  sb : ∀ x ∈ ss, 0 ≤ x.lo ∧ x.lo ≤ x.hi ∧ x.hi ≤ 63 ∧ x.z.length ≤ 5 ∧ Lies W x.v x.z
  nd : (ks.map OpI.lo).Nodup
  ln : ks.length + ss.length ≤ n
theorem I15.start (W : World) : I15 W RdS.new [] [] 0 := ⟨rfl, rfl, rfl, by simp, by simp, by simp, Nat.le_refl _⟩
theorem I15.up {W : World} {s : RdS} {ks ss : List OpI} {n m : Nat} (h : I15 W s ks ss n) (e : n ≤ m) : I15 W s ks ss m := ⟨h.e1, h.e2, h.e3, h.kb, h.sb, h.nd, Nat.le_trans h.ln e⟩
theorem I15.key {W : World} {s : RdS} {ks ss : List OpI} {n : Nat} (h : I15 W s ks ss n) {x : OpI} (hb : 0 ≤ x.lo ∧ x.lo ≤ 63 ∧ 0 ≤ x.link ∧ x.link ≤ 3) (hn : ∀ y ∈ ks, y.lo ≠ x.lo) : I15 W { s with keys := s.keys ++ [x.lo], links := s.links ++ [x.link] } (ks ++ [x]) ss (n + 1) := by
  refine ⟨by simp [h.e1], by simp [h.e2], h.e3, fun y hy => ?_, h.sb, ?_, by have := h.ln; simp; omega⟩
  · rcases List.mem_append.1 hy with hy | hy
    · exact h.kb y hy
    · simp only [List.mem_singleton] at hy; subst hy; exact hb
  · rw [List.map_append, List.nodup_append]
    refine ⟨h.nd, by simp, fun a ha b hb e => ?_⟩
    simp at hb
    obtain ⟨y, hy, rfl⟩ := List.mem_map.1 ha
    exact hn y hy (by rw [e, hb])
theorem I15.span {W : World} {s : RdS} {ks ss : List OpI} {n : Nat} (h : I15 W s ks ss n) {x : OpI} (hb : 0 ≤ x.lo ∧ x.lo ≤ x.hi ∧ x.hi ≤ 63 ∧ x.z.length ≤ 5 ∧ Lies W x.v x.z) : I15 W { s with scans := s.scans ++ [⟨x.lo, x.hi, x.z⟩] } ks (ss ++ [x]) (n + 1) := by
  refine ⟨h.e1, h.e2, by simp [h.e3], h.kb, fun y hy => ?_, h.nd, by have := h.ln; simp; omega⟩
  rcases List.mem_append.1 hy with hy | hy
  · exact h.sb y hy
  · simp only [List.mem_singleton] at hy; subst hy; exact hb
theorem I15.old {W : World} {s : RdS} {ks ss : List OpI} {n : Nat} (h : I15 W s ks ss n) {lo link : Int} (h0 : 0 ≤ lo) (h1 : lo ≤ 63) (hm : ∃ y ∈ ks, y.lo = lo) : s.add lo link = (0, s) := by
  unfold RdS.add
  obtain ⟨y, hy, e⟩ := hm
  rw [if_neg (by omega), h.e1, if_pos (List.mem_map.2 ⟨y, hy, e⟩)]
theorem I15.new {W : World} {s : RdS} {ks ss : List OpI} {n : Nat} (h : I15 W s ks ss n) {lo link : Int} (h0 : 0 ≤ lo) (h1 : lo ≤ 63) (hm : ∀ y ∈ ks, y.lo ≠ lo) : s.add lo link = (0, { s with keys := s.keys ++ [lo], links := s.links ++ [link] }) := by
  unfold RdS.add
  rw [if_neg (by omega), h.e1, if_neg (fun e => by obtain ⟨y, hy, e⟩ := List.mem_map.1 e; exact hm y hy e)]
theorem I15.room {W : World} {s : RdS} {ks ss : List OpI} {n : Nat} (h : I15 W s ks ss n) {lo hi : Int} {z : List Int} (h0 : 0 ≤ lo) (h1 : lo ≤ hi) (h2 : hi ≤ 63) (hn : n < 64) : s.span lo hi z = (0, { s with scans := s.scans ++ [⟨lo, hi, z⟩] }) := by
  unfold RdS.span
  have : s.scans.length < 64 := by rw [h.e3, List.length_map]; have := h.ln; omega
  rw [if_neg (by omega), if_neg (by omega)]
end Go.Proofs.Ytndpifkpgoeogaa
