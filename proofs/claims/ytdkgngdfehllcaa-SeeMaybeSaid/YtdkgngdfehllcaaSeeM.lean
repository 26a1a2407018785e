/- What is told of transactions when one of them is turned; a copy of a slice of vinculumref1's Other, and a store into it; conditions: the slice reads as that list. -/
import Derived.Test.YtdkgngdfehllcaaSeeW
import Derived.Test.YtdkgngdfehllcaaOwnM
import Derived.Deep.AppendLies
namespace Go.Proofs.Ytdkgngdfehllcaa
open Go.ChangeShapes Go.WideShapes Go.ChangeAt Go.RowKit
set_option linter.unusedVariables false

/-- What is told when x is another one. -/
def upd (L : Int → Option Tx) (x : Int) (X : Tx) (id : Int) : Option Tx := if id = x then some X else L id
theorem by_upd (L : Int → Option Tx) (x : Int) (X : Tx) (id me t : Int) (h : id ≠ x) : byI (upd L x X) id me t = byI L id me t := by
  unfold byI upd
  rw [if_neg h]
theorem by_upd_x (L : Int → Option Tx) (x : Int) (X : Tx) (me t : Int) (h : x ≠ me) : byI (upd L x X) x me t = byX X x t := by
  unfold byI upd
  rw [if_neg h, if_pos rfl]
theorem byX_four {X : Tx} {id t q : Int} (h : byX X id t = (4, q)) : q = id ∧ X.st = 2 ∧ X.e ≠ 0 ∧ X.e ≤ t := by
  unfold byX at h
  split at h
  · simp at h
  · split at h
    · simp at h
    · split at h
      · rename_i h1
        simp at h
        exact ⟨h.symm, h1⟩
      · simp at h
theorem by_four {L : Int → Option Tx} {id me t q : Int} (h : byI L id me t = (4, q)) : q = id ∧ id ≠ me ∧ ∃ X, L id = some X ∧ X.st = 2 ∧ X.e ≠ 0 ∧ X.e ≤ t := by
  unfold byI at h
  split at h
  · simp at h
  · rename_i hm
    cases hL : L id with
    | none => rw [hL] at h; simp at h
    | some X =>
      rw [hL] at h
      have := byX_four h
      exact ⟨this.1, hm, X, rfl, this.2⟩
theorem begin_txn {L : Int → Option Tx} {w me t : Int} (h : rdK w = 2) : beginI L w me t = byI L (rdN w) me t := by
  unfold beginI
  rw [if_neg (by rw [h]; omega), if_pos h]
theorem end_txn {L : Int → Option Tx} {w me t : Int} (h : rdK w = 2) : endI L w me t = byI L (rdN w) me t := by
  unfold endI
  rw [if_pos h]
theorem begin_other {L K : Int → Option Tx} {w me t : Int} (h : rdK w ≠ 2) : beginI L w me t = beginI K w me t := by
  unfold beginI
  rw [if_neg h, if_neg h]
theorem end_other {L K : Int → Option Tx} {w me t : Int} (h : rdK w ≠ 2) : endI L w me t = endI K w me t := by
  unfold endI
  rw [if_neg h, if_neg h]
theorem begin_four {L : Int → Option Tx} {w me t q : Int} (h : beginI L w me t = (4, q)) : rdK w = 2 ∧ q = rdN w ∧ q ≠ me ∧ ∃ X, L q = some X ∧ X.st = 2 ∧ X.e ≠ 0 ∧ X.e ≤ t := by
  by_cases hk : rdK w = 2
  · rw [begin_txn hk] at h
    obtain ⟨rfl, hm, hX⟩ := by_four h
    exact ⟨hk, rfl, hm, hX⟩
  · unfold beginI at h
    rw [if_neg hk] at h
    split at h <;> simp at h
theorem end_four {L : Int → Option Tx} {w me t q : Int} (h : endI L w me t = (4, q)) : rdK w = 2 ∧ q = rdN w ∧ q ≠ me ∧ ∃ X, L q = some X ∧ X.st = 2 ∧ X.e ≠ 0 ∧ X.e ≤ t := by
  by_cases hk : rdK w = 2
  · rw [end_txn hk] at h
    obtain ⟨rfl, hm, hX⟩ := by_four h
    exact ⟨hk, rfl, hm, hX⟩
  · unfold endI at h
    rw [if_neg hk] at h
    split at h <;> simp at h
theorem begin_upd (L : Int → Option Tx) (x : Int) (X : Tx) (w me t : Int) (h : ¬ (rdK w = 2 ∧ rdN w = x)) : beginI (upd L x X) w me t = beginI L w me t := by
  by_cases hk : rdK w = 2
  · rw [begin_txn hk, begin_txn hk, by_upd L x X _ me t (fun e => h ⟨hk, e⟩)]
  · exact begin_other hk
theorem end_upd (L : Int → Option Tx) (x : Int) (X : Tx) (w me t : Int) (h : ¬ (rdK w = 2 ∧ rdN w = x)) : endI (upd L x X) w me t = endI L w me t := by
  by_cases hk : rdK w = 2
  · rw [end_txn hk, end_txn hk, by_upd L x X _ me t (fun e => h ⟨hk, e⟩)]
  · exact end_other hk
theorem byX_three (X : Tx) (x t : Int) (h : X.st = 3) (he : X.e ≤ t) : byX X x t = (1, 0) := by unfold byX; rw [if_neg (by omega), if_pos ⟨h, he⟩]
theorem byX_gone (X : Tx) (x t : Int) (h : X.st = 4) : byX X x t = (2, 0) := by unfold byX; rw [if_neg (by omega), if_neg (by omega), if_neg (by omega)]
theorem rd_same {a b : Int} (ha : rdK a = 2) (hb : rdK b = 2) (h : rdN a = rdN b) : a = b := by
  rcases rd_cases a with ⟨_, h1, h2⟩ | ⟨_, h1, h2⟩ | ⟨_, _, h1, h2⟩ | ⟨_, _, _, h1, h2⟩ <;> rcases rd_cases b with ⟨_, h3, h4⟩ | ⟨_, h3, h4⟩ | ⟨_, _, h3, h4⟩ | ⟨_, _, _, h3, h4⟩ <;> omega
/-- Whom the answer hangs on: committed it stands, aborted it falls. -/
theorem see_hang {L : Int → Option Tx} {b e me t v x : Int} (h : seeI L b e me t = (v, [x])) : ∃ X, L x = some X ∧ X.st = 2 ∧ X.e ≠ 0 ∧ X.e ≤ t ∧ v ≠ 3 ∧ (∀ X3 : Tx, X3.st = 3 → X3.e = X.e → seeI (upd L x X3) b e me t = (v, [])) ∧ ∀ X4 : Tx, X4.st = 4 → b = e ∨ (seeI (upd L x X4) b e me t).1 ≠ v := by
  have pc := begin_cases L b me t
  have qc := end_cases L e me t
  unfold seeI at h
  by_cases hq : (endI L e me t).1 = 4
  · -- the end hangs
    have eq : endI L e me t = (4, rdN e) := by rcases qc with z | z | z | z <;> rw [z] at hq ⊢ <;> simp at hq
    have hp : ¬ ((beginI L b me t).1 = 2 ∨ (beginI L b me t).1 = 3) := by
      intro z
      rw [if_pos z] at h
      simp at h
    rw [if_neg hp, if_neg (by rw [eq]; simp), if_neg (by rw [eq]; simp), if_pos hq, eq] at h
    simp at h
    obtain ⟨rfl, rfl⟩ := h
    obtain ⟨hk, _, hm, X, hX, s2, e0, et⟩ := end_four eq
    refine ⟨X, hX, s2, e0, et, by omega, fun X3 h3 he3 => ?_, fun X4 h4 => ?_⟩
    · have q3 : endI (upd L (rdN e) X3) e me t = (1, 0) := by rw [end_txn hk, by_upd_x L _ X3 me t hm, byX_three X3 _ t h3 (by omega)]
      have p3 : ¬ ((beginI (upd L (rdN e) X3) b me t).1 = 2 ∨ (beginI (upd L (rdN e) X3) b me t).1 = 3) := by
        by_cases hb : rdK b = 2 ∧ rdN b = rdN e
        · rw [begin_txn hb.1, hb.2, by_upd_x L _ X3 me t hm, byX_three X3 _ t h3 (by omega)]
          omega
        · rw [begin_upd L _ X3 b me t hb]
          exact hp
      unfold seeI
      rw [if_neg p3, q3]
      rfl
    · by_cases hb : rdK b = 2 ∧ rdN b = rdN e
      · exact .inl (rd_same hb.1 hk hb.2)
      · right
        have q4 : endI (upd L (rdN e) X4) e me t = (2, 0) := by rw [end_txn hk, by_upd_x L _ X4 me t hm, byX_gone X4 _ t h4]
        unfold seeI
        rw [begin_upd L _ X4 b me t hb, if_neg hp, q4, if_neg (by simp), if_neg (by simp), if_neg (by simp)]
        split <;> simp
  · -- the begin hangs
    have hp4 : (beginI L b me t).1 = 4 ∧ ¬ ((endI L e me t).1 = 3) ∧ ¬ ((endI L e me t).1 = 1) ∧ v = 1 ∧ x = (beginI L b me t).2 := by
      by_cases z0 : (beginI L b me t).1 = 2 ∨ (beginI L b me t).1 = 3
      · rw [if_pos z0] at h; simp at h
      · rw [if_neg z0] at h
        by_cases z1 : (endI L e me t).1 = 3
        · rw [if_pos z1] at h; simp at h
        · rw [if_neg z1] at h
          by_cases z2 : (endI L e me t).1 = 1
          · rw [if_pos z2] at h; simp at h
          · rw [if_neg z2, if_neg hq] at h
            by_cases z4 : (beginI L b me t).1 = 4
            · rw [if_pos z4] at h
              simp at h
              exact ⟨z4, z1, z2, h.1.symm, h.2.symm⟩
            · rw [if_neg z4] at h; simp at h
    obtain ⟨p4, q3, q1, rfl, rfl⟩ := hp4
    have ep : beginI L b me t = (4, rdN b) := by rcases pc with z | z | z | z <;> rw [z] at p4 ⊢ <;> simp at p4
    rw [ep]
    obtain ⟨hk, _, hm, X, hX, s2, e0, et⟩ := begin_four ep
    have he : ¬ (rdK e = 2 ∧ rdN e = rdN b) := by
      intro z
      apply hq
      rw [end_txn z.1, z.2, ← begin_txn hk, ep]
    refine ⟨X, hX, s2, e0, et, by omega, fun X3 h3 he3 => ?_, fun X4 h4 => ?_⟩
    · have p3 : beginI (upd L (rdN b) X3) b me t = (1, 0) := by rw [begin_txn hk, by_upd_x L _ X3 me t hm, byX_three X3 _ t h3 (by omega)]
      unfold seeI
      rw [p3, end_upd L _ X3 e me t he, if_neg (by omega), if_neg q3, if_neg q1, if_neg hq]
      rfl
    · right
      have p4 : beginI (upd L (rdN b) X4) b me t = (2, 0) := by rw [begin_txn hk, by_upd_x L _ X4 me t hm, byX_gone X4 _ t h4]
      unfold seeI
      rw [p4, if_pos (by simp)]
      simp
def putF (f : Nat → Ot) (j : Nat) (X : Tx) (i : Nat) : Ot := if i = j then ⟨(f i).th, X⟩ else f i
theorem look_put (f : Nat → Ot) (n j : Nat) (X : Tx) (hj : j < n) (ht : (f j).th = true) : lookL (putF f j X) n = upd (lookL f n) ((j : Int) + 1) X := by
  funext id
  unfold lookL upd putF
  by_cases h : id = (j : Int) + 1
  · have e : (id - 1).toNat = j := by omega
    rw [if_pos h, e, if_pos rfl, if_pos ⟨by omega, by omega, ht⟩]
  · rw [if_neg h]
    by_cases h1 : 1 ≤ id
    · have e : (id - 1).toNat ≠ j := by omega
      rw [if_neg e]
    · rw [if_neg (by omega)]
      dsimp only
      rw [if_neg (by omega)]
def othC (y : Ot) : List Value := [.bool y.th, .int .i64 y.x.lv, .int .i64 y.x.st, .int .u64 y.x.b, .int .u64 y.x.e]
theorem othC_len (y : Ot) : (othC y).length = 5 := rfl
def rowF (f : Nat → Ot) (n : Nat) : List Ot := (List.range n).map f
theorem rowF_len (f : Nat → Ot) (n : Nat) : (rowF f n).length = n := by simp [rowF]
theorem rowF_get (f : Nat → Ot) (n i : Nat) (h : i < (rowF f n).length) : (rowF f n)[i] = f i := by simp [rowF]
theorem rowF_set (f : Nat → Ot) (n j : Nat) (X : Tx) (hj : j < n) : (rowF f n).set j ⟨(f j).th, X⟩ = rowF (putF f j X) n := by
  apply List.ext_getElem
  · simp [rowF]
  · intro i h1 h2
    rw [List.getElem_set, rowF_get, rowF_get]
    unfold putF
    by_cases h : j = i
    · rw [if_pos h, if_pos h.symm, h]
    · rw [if_neg h, if_neg (fun e => h e.symm)]
abbrev OwnO (w : World) (v : Value) (f : Nat → Ot) (n : Nat) : Prop := OwnM 5 othC 47 w v (rowF f n)
theorem OwnO.oth {w : World} {g n c : Nat} {f : Nat → Ot} (h : OwnO w (.slice (some ⟨g, 0, none⟩) n c) f n) (hf : ∀ j, j < n → TxFit (f j).x) : IsOth w (some ⟨g, 0, none⟩) n c f := by
  have hl : n < n + 1 := Nat.lt_succ_self n
  obtain ⟨h1, h2⟩ := id h
  rcases h2 with ⟨h2, _⟩ | ⟨g', c', cur, hv, _, hh, hc, hm, _⟩
  · simp at h2
  · simp at hv
    obtain ⟨rfl, _, rfl⟩ := hv
    rw [rowF_len] at hc
    refine ⟨hc, by unfold maxLen at hm; omega, fun e => (by cases e), fun hp => ⟨g, 0, rfl, lt_of_block hh, fun j hj => ?_⟩, hf⟩
    have cc := fun i (hi : i < 5) => OwnM.cell othC_len h j i (by rw [rowF_len]; exact hj) hi
    simp only [rowF_get] at cc
    refine ⟨?_, ?_, ?_, ?_, ?_⟩
    · simpa [othC] using cc 0 (by omega)
    · simpa [othC] using cc 1 (by omega)
    · simpa [othC] using cc 2 (by omega)
    · simpa [othC] using cc 3 (by omega)
    · simpa [othC] using cc 4 (by omega)
/-- The state of one of them is stored. -/
theorem OwnO.put {w : World} {g n c : Nat} {f : Nat → Ot} (h : OwnO w (.slice (some ⟨g, 0, none⟩) n c) f n) (j : Nat) (hj : j < n) (s : Int) : OwnO (w.setCell ⟨g, j * 5 + 2, none⟩ (.int .i64 s)) (.slice (some ⟨g, 0, none⟩) n c) (putF f j { (f j).x with st := s }) n := by
  have := OwnM.set othC_len h j 2 (by rw [rowF_len]; exact hj) (by omega) (.int .i64 s) ⟨(f j).th, { (f j).x with st := s }⟩ (by rw [rowF_get]; rfl)
  rw [rowF_set f n j _ hj] at this
  exact this
theorem info_oth : (Try.prog.info? 47).map (fun i => (i.zero, i.size, i.bytes)) = some (some (.agg #[.bool false, .int .i64 0, .int .i64 0, .int .u64 0, .int .u64 0]), 5, 40) := by kernel_rfl
theorem wp_copy {w : World} {ops : Array Oper} {rest : List Oper} {o : Oper} {a : Act} {Q : Exit → Act → World → Prop} (hgd : o.guard = none) (s x : Operand)
    (ho : o.op = .call { callee := .builtin .append, args := #[s, x], argTypes := #[32, 32] })
    (A : Option Addr) (n c : Nat) (f : Nat → Ot) (hI : IsOth w A n c f) (hp : 0 < n) (hn : n ≤ 100000) (hs : a.eval s = .slice (some ⟨w.heap.size, 0, none⟩) 0 0) (hx : a.eval x = .slice A n c)
    (h : ∀ g c' w', OwnO w' (.slice (some ⟨g, 0, none⟩) n c') f n → Below w.heap.size w w' → w.heap.size ≤ g → g < w'.heap.size → wpList Try.prog ops Q rest (a.put o.dst (.slice (some ⟨g, 0, none⟩) n c')) w') :
    wpList Try.prog ops Q (o :: rest) a (w.alloc (.cells #[] 47)) := by
  obtain ⟨i0, hi0, hz0, hz1, hz2⟩ := info_parts info_oth
  obtain ⟨b, off, rfl, hb, hc⟩ := hI.cell hp
  have k0 := Keep.alloc (Keep.refl (fun j => j = w.heap.size) w) (.cells #[] 47)
  have fl : ((rowF f n).flatMap othC).length = n * 5 := by rw [flat_len othC_len, rowF_len]
  refine wpList_append_lies _ hgd s x 32 ho 0 47 i0 _ 5 40 Try.underlying32 hi0 hz0 hz1 hz2 rfl (by decide) (.slice (some ⟨w.heap.size, 0, none⟩) 0 0) 0 [] hs ?_ ⟨b, off, none⟩ n c ((rowF f n).flatMap othC) hx fl ?_ ?_ hp (by unfold maxLen; omega) (by omega) (Nat.zero_le _) (w.heap.size + 1) (by simp) ?_
  · have := World.ownsRow_lit (base := 0) (e := 47) (size := 5) w #[] 0 (Nat.zero_le _) (by unfold maxLen; omega) rfl
    exact this
  · intro j u hj
    have hj5 : j < n * 5 := by
      have := (List.getElem?_eq_some_iff.1 hj).1
      omega
    have hd : j / 5 < n := by omega
    have e : j = j / 5 * 5 + j % 5 := by omega
    have hm : j % 5 < 5 := Nat.mod_lt _ (by decide)
    rw [e, flat_get othC_len _ _ _ (by rw [rowF_len]; exact hd) hm, rowF_get] at hj
    obtain ⟨c0, c1, c2, c3, c4⟩ := hc (j / 5) hd
    have key : w.cell? ⟨b, off + j, none⟩ = some u := by
      rw [e]
      rcases (by omega : j % 5 = 0 ∨ j % 5 = 1 ∨ j % 5 = 2 ∨ j % 5 = 3 ∨ j % 5 = 4) with z | z | z | z | z <;> rw [z] at hj ⊢ <;> simp [othC] at hj <;> subst hj
      · simpa [Nat.add_assoc] using c0
      · simpa [Nat.add_assoc] using c1
      · simpa [Nat.add_assoc] using c2
      · simpa [Nat.add_assoc] using c3
      · simpa [Nat.add_assoc] using c4
    have := k0.cell key (by show ¬ b = w.heap.size; omega)
    rw [add_plain]
    exact this
  · intro u hu
    rw [List.mem_flatMap] at hu
    obtain ⟨y, _, hu⟩ := hu
    simp [othC] at hu
    rcases hu with rfl | rfl | rfl | rfl | rfl <;> rfl
  · intro g c' w' o1 gr hg hl
    have e : OwnO w' (.slice (some ⟨g, 0, none⟩) n c') f n := by
      unfold OwnO OwnM
      rw [rowF_len]
      simpa using o1
    have k1 : Keep (fun j => j = w.heap.size) w w' := k0.trans ⟨gr.os, gr.tape, gr.output, gr.size, fun j hj hn => gr.block j hj (fun e => hn (by simp [Value.ownBlock] at e; first | exact e | exact e.symm))⟩
    rw [Nat.zero_add]
    refine h g c' w' e (k1.below (Nat.le_refl _) (fun k hk => Nat.le_of_eq hk.symm)) ?_ hl
    rcases hg with z | z
    · simp [Value.ownBlock] at z; omega
    · omega
end Go.Proofs.Ytdkgngdfehllcaa
