/- Package model as landed, its laws' face, second part: gets, scans, ends. Condition: numbers that fit. -/
import Derived.Test.YtkkjofefjepodaaMdD1
namespace Go.Proofs.Ytkkjofefjepodaa
open Go.ChangeShapes Go.WideShapes Go.ChangeAt Go.RowKit
set_option linter.unusedVariables false
set_option linter.unusedSimpArgs false
section
variable {W w w' : World} {m : Nat} {S S' T : Nat → Prop} {x y : MoI} {K : Nat → Value} {o : Nat → Nat} {z : LdI} {t : TtI}
/-- What Do is to show. -/
def DoX (w : World) (m : Nat) (K : Nat → Value) (o : Nat → Nat) (z : LdI) (n : Nat) (op : OpI) (r : ReI) (y : MoI) : Prop := Calls Try.prog 19 #[.pointer (some ⟨m, 0, none⟩), .int .i64 n, opV op] w (DoEnd w m o r 0 fun z' => Lr z' y)
theorem DoEnd.mono {r : ReI} {e0 : Int} {Z1 Z2 : LdI → Prop} {e : Ending} (h : DoEnd w m o r e0 Z1 e w') (hz : ∀ z, Z1 z → Z2 z) : DoEnd w m o r e0 Z2 e w' := by
  obtain ⟨u, z', K', o', a, b, c⟩ := h
  exact ⟨u, z', K', o', a, hz _ b, c⟩
theorem dox_over (a : LdAt w m K o z) {L : List (Nat × VeI)} {io : Nat → Int} (l : LrL L io z x) (g : Good x) {n : Nat} (n8 : n < 8) (ht : z.s n = some t) (key hi val : Int) (hok : okI ⟨7, key, hi, val⟩ = true) : DoX w m K o z n ⟨7, key, hi, val⟩ ⟨0, 0, [], 4, 1⟩ (x.over n) := by
  have ts := l.ts n t n8 ht
  refine (do_over a n n8 ht ⟨7, key, hi, val⟩ hok true (by simp) (.inl rfl) ⟨0, 0, [], 4, 1⟩ (by decide) (fun z' => z' = { z with F := updF z.F t.f ⟨4, 0⟩ }) fun w1 a1 => (exec_abort a1 n8 ht ts.st key hi val).mono fun e w' => LdRes.fin rfl).mono fun e w' hd => hd.mono ?_
  rintro z' ⟨z0, rfl, rfl⟩
  exact ⟨L, io, l.gone g n8 ht 0⟩
theorem dox_commit (a : LdAt w m K o z) {L : List (Nat × VeI)} {io : Nat → Int} (l : LrL L io z x) (g : Good x) {n : Nat} (n8 : n < 8) (ht : z.s n = some t) (key hi val : Int) (hok : okI ⟨6, key, hi, val⟩ = true) : DoX w m K o z n ⟨6, key, hi, val⟩ (x.commit n).1 (x.commit n).2 := by
  have ts := l.ts n t n8 ht
  obtain ⟨u0, _, _⟩ := lr_len g ⟨L, io, l⟩
  have u1 : ∀ k, k < 64 → (z.k k).length ≤ 100000 := fun k hk => by have := u0 k hk; omega
  have c2 := l.c2
  have c3 := l.c3
  have tt := g.time
  have cf := g.conf
  by_cases hl : x.limit ≤ x.time
  · have e : x.commit n = (MoI.bad 6, x.over n) := by unfold MoI.commit; rw [if_pos hl]
    rw [e]
    refine (do_over a n n8 ht ⟨6, key, hi, val⟩ hok true (by simp) (.inl rfl) (MoI.bad 6) (by decide) (fun z' => z' = { z with F := updF z.F t.f ⟨4, 0⟩ }) fun w1 a1 => exec_commit a1 n8 ht key hi val _ _ fun w2 a2 => (commit_late a2 n8 ht ts.st (by omega)).mono fun e w' => LdRes.fin rfl).mono fun e w' hd => hd.mono ?_
    rintro z' ⟨z0, rfl, rfl⟩
    exact ⟨L, io, l.gone g n8 ht 0⟩
  · have lt : LrL L io (tickL z) { x with time := x.time + 1 } := by
      have := l.tick (z.clock + 1)
      rw [c3]
      exact this
    have gt := good_tick g (show x.time < x.limit by omega)
    have hh := lt.holds gt n8 (show (tickL z).s n = some t from ht) (z.clock + 1) (by show x.time + 1 ≤ z.clock + 1; omega)
    have hx : ({ ({ x with time := x.time + 1 } : MoI) with time := z.clock + 1 } : MoI) = { x with time := x.time + 1 } := by rw [c3]
    rw [hx] at hh
    have hlv := ts.level
    cases hv : holdsL (tickL z) t (z.clock + 1) with
    | false =>
      rw [hv] at hh
      have hh := hh.symm
      rw [Bool.or_eq_false_iff, decide_eq_false_iff_not] at hh
      have e : x.commit n = (MoI.bad 3, ({ x with time := x.time + 1 } : MoI).over n) := by
        unfold MoI.commit
        rw [if_neg hl]
        simp only
        rw [if_pos ⟨by rw [hlv]; exact hh.1, hh.2⟩]
      rw [e]
      refine (do_over a n n8 ht ⟨6, key, hi, val⟩ hok true (by simp) (.inl rfl) (MoI.bad 3) (by decide) (fun z' => z' = { tickL z with F := updF z.F t.f ⟨4, 0⟩ }) fun w1 a1 => exec_commit a1 n8 ht key hi val _ _ fun w2 a2 => (commit_bad a2 n8 ht ts.st (by omega) (by omega) (by omega) (by omega) u1 hv).mono fun e w' => LdRes.fin rfl).mono fun e w' hd => hd.mono ?_
      rintro z' ⟨z0, rfl, rfl⟩
      exact ⟨L, io, lt.gone gt n8 ht 0⟩
    | true =>
      rw [hv] at hh
      have hh := hh.symm
      rw [Bool.or_eq_true, decide_eq_true_iff] at hh
      have e : x.commit n = (⟨0, 0, [], 3, 0⟩, { x with time := x.time + 1, v := x.v.map (doneV (x.s n).id (x.time + 1)), s := putS x.s n tx0 }) := by
        unfold MoI.commit
        rw [if_neg hl]
        simp only
        rw [if_neg (fun c => by
          rcases hh with q | q
          · exact c.1 (hlv.trans q)
          · have := c.2; rw [q] at this; cases this)]
      rw [e]
      refine (do_over a n n8 ht ⟨6, key, hi, val⟩ hok true (by simp) (.inl rfl) ⟨0, 0, [], 3, 0⟩ (by decide) (fun z' => z' = { tickL z with F := updF z.F t.f ⟨3, z.clock + 1⟩ }) fun w1 a1 => exec_commit a1 n8 ht key hi val _ _ fun w2 a2 => (commit_ok a2 n8 ht ts.st (by omega) (by omega) (by omega) (by omega) u1 hv).mono fun e w' => LdRes.fin rfl).mono fun e w' hd => hd.mono ?_
      rintro z' ⟨z0, rfl, rfl⟩
      have := lt.done gt n8 ht (z.clock + 1) (by omega)
      rw [c3]
      rw [c3] at this
      exact ⟨L, io, this⟩
theorem dox_get (a : LdAt w m K o z) {L : List (Nat × VeI)} {io : Nat → Int} (l : LrL L io z x) (g : Good x) {n : Nat} (n8 : n < 8) (ht : z.s n = some t) (hop : (x.s n).ops < 12) (k : Nat) (k64 : k < 64) (hi val : Int) (hok : okI ⟨1, k, hi, val⟩ = true) : DoX w m K o z n ⟨1, k, hi, val⟩ ((x.count n).get n ⟨1, k, hi, val⟩).1 ((x.count n).get n ⟨1, k, hi, val⟩).2 := by
  have ts := l.ts n t n8 ht
  have id0 : (x.s n).id ≠ 0 := by rw [ts.id]; exact ts.nz
  have hops := ts.ops
  have so := (g.ses n n8).ops
  obtain ⟨u0, _, _⟩ := lr_len g ⟨L, io, l⟩
  have lc : LrL L io (setT z n (opsT t)) (x.count n) := l.count n8 ht
  have gc := good_count g n8 id0 hop
  have h1 : (setT z n (opsT t)).s n = some (opsT t) := putT_self _ _ _
  have c1 := count_at x n
  have hw : ∀ q : Int, q ∈ ((x.count n).s n).wrote ↔ q ∈ (x.s n).wrote := fun q => by rw [c1]
  have run : ∀ r Zs, (∀ w2, LdAt w2 m K o (setT z n (opsT t)) → Calls Try.prog 75 #[.pointer (some ⟨m, 0, none⟩), .pointer (some ⟨t.b, 0, none⟩), .int .i64 k] w2 (LdEnd w2 m o r Zs)) → r.over = 0 → Calls Try.prog 19 #[.pointer (some ⟨m, 0, none⟩), .int .i64 n, opV ⟨1, k, hi, val⟩] w (DoEnd w m o r 0 Zs) := fun r Zs hP hr =>
    do_stay a n n8 ht ⟨1, k, hi, val⟩ hok false (by simp) (.inr (by omega)) r hr Zs fun w1 a1 => exec_get a1 n8 ht k hi val (by omega) r Zs hP
  have G := fun w2 (a2 : LdAt w2 m K o (setT z n (opsT t))) => lget_any a2 n8 h1 k64 (by show (z.k k).length ≤ 100000; have := u0 k k64; omega)
  unfold DoX MoI.get
  simp only
  rcases lc.sees gc n8 h1 k64 with ⟨e1, e2⟩ | ⟨j, v, e1, e2, e3, _⟩
  · rw [e1]
    rw [e2] at G
    refine run _ _ (fun w2 a2 => (G w2 a2).mono fun e w' q => (LdRes.fin rfl q).mono ?_) rfl
    rintro z' rfl
    have ez : setT (setT z n (opsT t)) n (gotT (opsT t) none k) = { setT z n (opsT t) with s := putT (setT z n (opsT t)).s n (some (relyT (opsT t) 3 k k)) } := rfl
    by_cases hk : (k : Int) ∈ ((x.count n).s n).wrote
    · rw [if_pos hk]
      exact ⟨L, io, lc.keepA n8 h1 3 (by decide) hk⟩
    · rw [if_neg hk]
      exact ⟨L, io, lc.keepR n8 h1 3 k k false false (by simp)⟩
  · rw [e1]
    rw [e3] at G
    have ev : valI (x.count n).v j = v.val := by
      have := lc.at e2
      unfold valI
      rw [this]
      rfl
    simp only [ev]
    refine run _ _ (fun w2 a2 => (G w2 a2).mono fun e w' q => (LdRes.fin rfl q).mono ?_) rfl
    rintro z' rfl
    by_cases hk : (k : Int) ∈ ((x.count n).s n).wrote
    · rw [if_pos hk]
      exact ⟨L, io, lc.keepA n8 h1 2 (by decide) hk⟩
    · rw [if_neg hk]
      exact ⟨L, io, lc.keepR n8 h1 2 k k true false (by simp)⟩
theorem dox_scan (a : LdAt w m K o z) {L : List (Nat × VeI)} {io : Nat → Int} (l : LrL L io z x) (g : Good x) {n : Nat} (n8 : n < 8) (ht : z.s n = some t) (hop : (x.s n).ops < 12) (lo hh : Nat) (h1 : lo ≤ hh) (h2 : hh < 64) (val : Int) (hok : okI ⟨5, lo, hh, val⟩ = true) : DoX w m K o z n ⟨5, lo, hh, val⟩ ((x.count n).scan n ⟨5, lo, hh, val⟩).1 ((x.count n).scan n ⟨5, lo, hh, val⟩).2 := by
  have ts := l.ts n t n8 ht
  have id0 : (x.s n).id ≠ 0 := by rw [ts.id]; exact ts.nz
  have hops := ts.ops
  have so := (g.ses n n8).ops
  obtain ⟨u0, _, _⟩ := lr_len g ⟨L, io, l⟩
  have lc : LrL L io (setT z n (opsT t)) (x.count n) := l.count n8 ht
  have gc := good_count g n8 id0 hop
  have hs1 : (setT z n (opsT t)).s n = some (opsT t) := putT_self _ _ _
  have e : pairsL z (seesV z.F t) lo (hh + 1 - lo) = scanI (x.count n).v ((x.count n).s n).id ((x.count n).s n).start lo hh := lc.scan gc n8 hs1 lo hh h1 h2
  unfold DoX MoI.scan
  simp only
  rw [← e]
  refine (do_stay a n n8 ht ⟨5, lo, hh, val⟩ hok false (by simp) (.inr (by omega)) _ rfl _ fun w1 a1 => exec_scan a1 n8 ht lo hh h1 h2 val (by omega) (fun k hk => by have := u0 k hk; omega)).mono fun e w' hd => hd.mono ?_
  rintro z' rfl
  have := lc.keepR n8 hs1 3 lo hh false true (by simp)
  have ez : ({ setT z n (opsT t) with s := putT (setT z n (opsT t)).s n (some { opsT t with again := fun k => (opsT t).again k || (decide ((3 : Int) ≤ (opsT t).level) && decide ((lo : Int) ≤ (k : Int)) && decide ((k : Int) ≤ (hh : Int))) }) } : LdI) = setT z n (relyT (opsT t) 3 lo hh) := by
    unfold setT
    simp only [putT_put]
    rfl
  rw [ez] at this
  exact ⟨L, io, this⟩
end
end Go.Proofs.Ytkkjofefjepodaa
