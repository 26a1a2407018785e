/- A Model of whole calls in plain lists: states that are laid by calls one behind the other; calls that are known to be allowed. No dump; no condition. -/
import Derived.Test.YtkkjofefjepodaaMoW
namespace Go.Proofs.Ytkkjofefjepodaa
set_option linter.unusedVariables false
namespace MoI
/-- A call that is known to be allowed, of a session that lives. -/
def doE' (m : MoI) (s : Int) (o : OpI) : Int :=
  if s < 0 ∨ 7 < s then 1 else if (m.s s.toNat).id = 0 then 9 else if o.kind = 7 ∨ o.kind = 6 then 0 else if 12 ≤ (m.s s.toNat).ops then 65 else 0
def doR' (m : MoI) (s : Int) (o : OpI) : ReI := if m.doE' s o = 0 then (m.run s.toNat o).1 else re0
def doM' (m : MoI) (s : Int) (o : OpI) : MoI := if m.doE' s o = 0 then (m.run s.toNat o).2 else m
end MoI
section
variable {m : MoI} {s : Int} {o : OpI}
theorem doE_ok (h : okI o = true) : m.doE s o = m.doE' s o := by
  unfold MoI.doE MoI.doE'
  simp [h]
theorem doR_ok (h : okI o = true) : m.doR s o = m.doR' s o := by unfold MoI.doR MoI.doR'; rw [doE_ok h]
theorem doM_ok (h : okI o = true) : m.doM s o = m.doM' s o := by unfold MoI.doM MoI.doM'; rw [doE_ok h]
end
/-- Two transactions over two keys. -/
def pair0 : MoI := (((((new0 50 100).beg 7 1).doM' 7 ⟨2, 1, 0, 10⟩).doM' 7 ⟨2, 2, 0, 20⟩).doM' 7 ⟨6, 0, 0, 0⟩)
def pairM (a b : Int) : MoI := (pair0.beg 0 a).beg 1 b
theorem level_cases {a : Int} (h : 1 ≤ a ∧ a ≤ 3) : a = 1 ∨ a = 2 ∨ a = 3 := by omega
/-- Eight sessions, told one by one. -/
def ses (l : List TxI) : Nat → TxI := fun i => l.getD i tx0
theorem ses_eq {f : Nat → TxI} {l : List TxI} (h0 : f 0 = ses l 0) (h1 : f 1 = ses l 1) (h2 : f 2 = ses l 2) (h3 : f 3 = ses l 3) (h4 : f 4 = ses l 4) (h5 : f 5 = ses l 5) (h6 : f 6 = ses l 6) (h7 : f 7 = ses l 7) (h8 : ∀ n, f (n + 8) = ses l (n + 8)) : f = ses l := by
  funext i
  match i with
  | 0 => exact h0
  | 1 => exact h1
  | 2 => exact h2
  | 3 => exact h3
  | 4 => exact h4
  | 5 => exact h5
  | 6 => exact h6
  | 7 => exact h7
  | n + 8 => exact h8 n
/-- A write's call may be. -/
theorem okv {k key v : Int} (hk : k = 2 ∨ k = 3) (h : 0 ≤ key ∧ key ≤ 63) (hv : 0 ≤ v ∧ v ≤ 65535) : okI ⟨k, key, 0, v⟩ = true := by
  unfold okI
  rcases hk with rfl | rfl <;> simp <;> omega
def pairL (a b : Int) : MoI := ⟨50, 100, [⟨1, 10, 0, 0, 2, 0, false⟩, ⟨2, 20, 0, 0, 2, 0, false⟩], ses [⟨2, a, 0, 3, [], []⟩, ⟨3, b, 0, 4, [], []⟩, tx0, tx0, tx0, tx0, tx0, tx0], 4, 3⟩
theorem pair_lit {a b : Int} (ha : 1 ≤ a ∧ a ≤ 3) (hb : 1 ≤ b ∧ b ≤ 3) : pairM a b = pairL a b := by
  rcases level_cases ha with rfl | rfl | rfl <;> rcases level_cases hb with rfl | rfl | rfl <;> exact MoI.ext rfl rfl rfl (ses_eq rfl rfl rfl rfl rfl rfl rfl rfl (fun _ => rfl)) rfl rfl
end Go.Proofs.Ytkkjofefjepodaa
