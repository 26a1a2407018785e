/- Contracts of the document's own answer for layer 5: Oldest, Make; conditions: the Table is one that calls have made of an empty one. -/
import Derived.Test.YtodmpmnjkfnogaaRefT3
import Derived.Deep.AppendLies
namespace Go.Proofs.Ytodmpmnjkfnogaa
open Go.ChangeShapes Go.WideShapes Go.ChangeAt Go.RowKit
set_option linter.unusedVariables false

section
variable {w w' : World} {p : Nat} {v : Value} {s : TS}
def foldN (s : TS) (now : Int) (k : Nat) : Int := (s.live.take k).foldl (fun a id => min a (s.tx (id - 1).toNat).b) now
theorem foldN_step (s : TS) (now : Int) (k : Nat) (h : k < s.live.length) : foldN s now (k + 1) = min (foldN s now k) (s.tx (s.live.getD k 0 - 1).toNat).b := by
  unfold foldN
  rw [List.take_succ_eq_append_getElem h, List.foldl_append]
  simp [List.getD_eq_getElem?_getD, h]
theorem foldN_all (s : TS) (now : Int) : foldN s now s.live.length = s.old now := by
  unfold foldN
  rw [List.take_length]
  exact old_fold s now s.l.length
def ORel (s : TS) (now : Int) (w : World) (k : Nat) (u i : Value) (wr : World) : Prop := k ≤ s.live.length ∧ i = .int .i64 k ∧ u = .int .u64 (foldN s now k) ∧ ∃ d, wr = w.drewN d
theorem rtold_any (h : RT w p v s) (ok : TOk s) (now : Int) : Calls Try.prog 22 #[.pointer (some ⟨p, 0, none⟩), .int .u64 now] w fun e w' => e = .returned (.int .u64 (s.old now)) ∧ Below w.heap.size w w' := by
  have n1 := ok.n1
  have ll := live_len s
  go_enter Try.func22, Try.ntmps22
  go_wp2_with fail
  refine (rtlive_any h ok).mono ?_
  rintro e w1 ⟨u, rfl, ow, bl⟩
  have hr := h.keep (Keep.of_below bl (fun _ => False)) (by simp)
  have g1 := hr.c1
  have hO := Own.of_base (f := Value.int .i64) (zs := s.live) ow rfl rfl
  go_wp2
  go_loopw [1, 6] (fun u i wr => ∃ k : Nat, ORel s now w1 k u i wr) (fun _ i _ => s.live.length - (intOf i).toNat)
  case atStart => exact ⟨0, Nat.zero_le _, rfl, rfl, 0, rfl⟩
  case round =>
    obtain ⟨k, hk, rfl, rfl, d, rfl⟩ := hrel
    by_cases hlt : k < s.live.length
    · have fs := foldN_step s now k hlt
      have mem := liveTo_mem s s.l.length (s.live.getD k 0) (by rw [List.getD_eq_getElem?_getD, List.getElem?_eq_getElem hlt]; exact List.getElem_mem hlt)
      rcases hO.form with ⟨_, z⟩ | ⟨g2, c2, rfl, _⟩
      · rw [z] at hlt; simp at hlt
      · have cl := OwnN.cell ow k hlt
        obtain ⟨id, eid⟩ : ∃ id, s.live.getD k 0 = id := ⟨_, rfl⟩
        rw [eid] at fs mem cl
        obtain ⟨j, ej⟩ : ∃ j : Nat, id - 1 = j := ⟨(id - 1).toNat, by omega⟩
        have hj : j < s.l.length := by omega
        have wr1 : IntKind.i64.wrap (id - 1) = j := by rw [IntWalk.i64_in _ (by omega)]; exact ej
        rw [ej, Int.toNat_natCast] at fs
        obtain ⟨a, ea⟩ : ∃ a, foldN s now k = a := ⟨_, rfl⟩
        rw [ea] at fs ⊢
        rcases hr.form with ⟨_, z⟩ | ⟨g, c, rfl, _⟩
        · rw [z] at hj; simp at hj
        · obtain ⟨_, _, k2, _⟩ := hr.cells j hj
          obtain ⟨b, eb⟩ : ∃ b, (s.tx j).b = b := ⟨_, rfl⟩
          rw [eb] at k2 fs
          have FS := Lib.hid fs
          clear fs eid ej ea eb h hO
          go_wp2
          go_quiet (fail)
          rcases Int.lt_or_le b a with hab | hab
          · have e1 : (if b < a then b else a) = b := if_pos hab
            have E2 := Lib.hid (show min a b = b by omega)
            go_wp2
            go_roundw
            case rel => exact ⟨k + 1, by omega, by go_num, by rw [FS.out, E2.out, e1], _, rfl⟩
            case measure => simp [intOf]; omega
          · have e1 : (if b < a then b else a) = a := if_neg (by omega)
            have E2 := Lib.hid (show min a b = a by omega)
            go_wp2
            go_roundw
            case rel => exact ⟨k + 1, by omega, by go_num, by rw [FS.out, E2.out, e1], _, rfl⟩
            case measure => simp [intOf]; omega
    · obtain rfl : k = s.live.length := by omega
      rw [foldN_all]
      obtain ⟨A, c, hv, _⟩ : ∃ A c, u = .slice A s.live.length c ∧ True := by
        rcases hO.form with ⟨rfl, z⟩ | ⟨g2, c2, rfl, _⟩
        · exact ⟨none, 0, by rw [z]; rfl, trivial⟩
        · exact ⟨_, _, rfl, trivial⟩
      subst hv
      clear hO ow hr h
      go_wp2
      go_ret
      exact ⟨rfl, below_drewN bl d⟩
theorem info_txn : (Try.prog.info? 32).map (fun i => (i.zero, i.size, i.bytes)) = some (some (.agg #[.int .i64 0, .int .i64 0, .int .u64 0, .int .u64 0]), 4, 32) := by kernel_rfl
theorem txO_lies (x : World) (y : Tx) : ∀ j u, (txC y)[j]? = some u → (x.alloc (txO y)).cell? ((⟨x.heap.size, 0, none⟩ : Addr).add j) = some u := by
  intro j u hj
  match j, hj with
  | 0, hj => simp [txC] at hj; subst hj; simp [Addr.add]
  | 1, hj => simp [txC] at hj; subst hj; simp [Addr.add]
  | 2, hj => simp [txC] at hj; subst hj; simp [Addr.add]
  | 3, hj => simp [txC] at hj; subst hj; simp [Addr.add]
theorem wp_pushT {w : World} {ops : Array Oper} {rest : List Oper} {o : Oper} {a : Act} {Q : Exit → Act → World → Prop} (hgd : o.guard = none) (s x : Operand)
    (ho : o.op = .call { callee := .builtin .append, args := #[s, x], argTypes := #[45, 45] })
    (v : Value) (zs : List Tx) (hs : a.eval s = v) (hown : OwnM 4 txC 32 w v zs) (y : Tx) (hx : a.eval x = .slice (some ⟨w.heap.size, 0, none⟩) 1 1) (hl : zs.length ≤ 100000)
    (h : ∀ g c w', OwnM 4 txC 32 w' (.slice (some ⟨g, 0, none⟩) (zs.length + 1) c) (zs ++ [y]) → Keep (fun j => v.ownBlock = some j) w w' → (v.ownBlock = some g ∨ w.heap.size ≤ g) → wpList Try.prog ops Q rest (a.put o.dst (.slice (some ⟨g, 0, none⟩) (zs.length + 1) c)) w') :
    wpList Try.prog ops Q (o :: rest) a (w.alloc (txO y)) := by
  obtain ⟨i0, hi0, hz0, hz1, hz2⟩ := info_parts info_txn
  refine wpList_append_lies _ hgd s x 45 ho 0 32 i0 _ 4 32 Try.underlying45 hi0 hz0 hz1 hz2 rfl (by decide) v zs.length (zs.flatMap txC) hs (World.ownsRow.alloc hown _) ⟨w.heap.size, 0, none⟩ 1 1 (txC y) hx rfl (txO_lies w y) (by simp [txC, Value.oneCell']) (by decide) (by unfold maxLen; omega) (by omega) (Nat.zero_le _) (w.heap.size + 1) (by simp) ?_
  intro g c w' o1 gr hg _
  have e : OwnM 4 txC 32 w' (.slice (some ⟨g, 0, none⟩) (zs.length + 1) c) (zs ++ [y]) := by
    unfold OwnM
    simpa using o1
  have k0 := Keep.alloc (Keep.refl (fun j => v.ownBlock = some j) w) (txO y)
  refine h g c w' e (k0.trans ⟨gr.os, gr.tape, gr.output, gr.size, fun j hj hn => gr.block j hj (fun e => hn e.symm)⟩) (hg.imp_right (by omega))
theorem RT.push (h : RT w p v s) {y : Tx} {g c : Nat} (o : OwnM 4 txC 32 w' (.slice (some ⟨g, 0, none⟩) (s.l.length + 1) c) (s.l ++ [y])) (k : Keep (fun j => v.ownBlock = some j) w w') (hg : v.ownBlock = some g ∨ w.heap.size ≤ g) :
    RTPost (.tuple #[.int .i64 ((s.l.length : Int) + 1), .int .i64 0]) p v { s with l := s.l ++ [y] } w (.returned (.tuple #[.int .i64 ((s.l.length : Int) + 1), .int .i64 0])) (w'.setCell ⟨p, 1, none⟩ (.slice (some ⟨g, 0, none⟩) (s.l.length + 1) c)) := by
  have np : v.ownBlock ≠ some p := h.ne
  have pl := lt_of_cell (a := ⟨p, 0, none⟩) h.c0
  have gp : g ≠ p := fun e => by subst e; rcases hg with x | x; exact np x; exact absurd pl (Nat.not_lt.2 x)
  have c0 := k.cell h.c0 np
  have c1 := k.cell h.c1 np
  refine ⟨rfl, _, ⟨?_, World.cell?_setCell_same _ _ _ c1, fun i => ?_, ?_, fun e => gp (by simpa [Value.ownBlock] using e)⟩, ?_, fun j hj => ?_⟩
  · rw [World.cell?_setCell_other _ _ _ _ (by simp)]; exact c0
  · rw [World.frozen?_setCell]; exact (k.frozen (a := ⟨p, i, none⟩) pl np).trans (h.fz i)
  · have := o.keep (keep_one w' ⟨p, 1, none⟩ (.slice (some ⟨g, 0, none⟩) (s.l.length + 1) c)) (fun x hx e => gp (by simp [Value.ownBlock] at hx; rw [hx]; exact e))
    simpa using this
  · exact Keep.setCell (S := FootT p v) (k.mono (fun j hj => .inr hj)) (.inl rfl) _
  · simp [Value.ownBlock] at hj
    subst hj
    exact hg
theorem rtmake_any (h : RT w p v s) (ok : TOk s) (lv b : Int) (b0 : 0 ≤ b) : Calls Try.prog 17 #[.pointer (some ⟨p, 0, none⟩), .int .i64 lv, .int .u64 b] w (RTPost (.tuple #[.int .i64 (s.make lv b).1, .int .i64 (s.make lv b).2.1]) p v (s.make lv b).2.2 w) := by
  have n1 := ok.n1
  have g0 := h.c0
  have g1 := h.c1
  by_cases hb : lv < 1 ∨ 3 < lv ∨ 1099511627776 < b
  · have e : s.make lv b = (0, 1, s) := by unfold TS.make; rw [if_pos hb]
    rw [e]
    clear e
    rcases (by omega : lv < 1 ∨ (¬ lv < 1 ∧ 3 < lv) ∨ (¬ lv < 1 ∧ ¬ 3 < lv ∧ 1099511627776 < b)) with hb | ⟨hb, h2⟩ | ⟨hb, h2, h3⟩
    all_goals
      go_enter Try.func17, Try.ntmps17
      go_wp2
      go_ret2
      exact RTPost.same h rfl (Keep.refl _ _)
  · have x1 : ¬ lv < 1 := by omega
    have x2 : ¬ 3 < lv := by omega
    have x3 : ¬ 1099511627776 < b := by omega
    by_cases hm : s.most ≤ s.l.length
    · have e : s.make lv b = (0, 65, s) := by unfold TS.make; rw [if_neg hb, if_pos hm]
      rw [e]
      clear e hb
      rcases h.form with ⟨rfl, z⟩ | ⟨g, c, rfl, hg⟩
      · exfalso; rw [z] at hm; have := ok.m0; simp at hm; omega
      · have d1 : decide (s.most ≤ (s.l.length : Int)) = true := decide_eq_true hm
        go_enter Try.func17, Try.ntmps17
        go_wp2
        go_quiet (fail)
        go_wp2
        go_ret2
        exact RTPost.same h rfl (drewN_keep _ _ _)
    · have e : s.make lv b = ((s.l.length : Int) + 1, 0, { s with l := s.l ++ [⟨lv, 1, b, 0⟩] }) := by unfold TS.make; rw [if_neg hb, if_neg hm]
      rw [e]
      clear e hb
      have z1 := h.fz 1
      have ow := h.ow
      rcases h.form with ⟨rfl, z⟩ | ⟨g, c, rfl, hg⟩
      · have m0 := ok.m0
        have z0 : s.l.length = 0 := by rw [z]; rfl
        have d1 : decide (s.most ≤ 0) = false := decide_eq_false (by omega)
        clear z0 z
        go_enter Try.func17, Try.ntmps17
        go_wp2
        go_quiet (fail)
        go_wp2_with (with_reducible refine wp_stop 39 rfl ?_)
        intro _
        have kd := drewN_keep (fun _ => False) w nq; have h := h.keep kd (by simp); have ow := h.ow; have g1 := h.c1; have z1 := h.fz 1; refine wp_pushT rfl (.tmp 34) (.tmp 38) rfl _ s.l rfl ow ⟨lv, 1, b, 0⟩ rfl (by omega) ?_; intro g3 c3 w3 o3 k3 hg3; have c5 := k3.cell g1 h.ne; have f5 := (k3.frozen (a := ⟨p, 1, none⟩) (lt_of_cell (a := ⟨p, 0, none⟩) h.c0) h.ne).trans z1; have P := Lib.hid (h.push o3 k3 hg3); clear g0 g1 z1 ow o3 k3 hg3
        go_wp2
        go_ret2
        obtain ⟨_, v5, r5, k5, f5⟩ := P.out
        exact ⟨by simp, v5, r5, (kd.mono (by simp)).trans k5, f5⟩
      · have d1 : decide (s.most ≤ (s.l.length : Int)) = false := decide_eq_false (by omega)
        go_enter Try.func17, Try.ntmps17
        go_wp2
        go_quiet (fail)
        go_wp2_with (with_reducible refine wp_stop 39 rfl ?_)
        intro _
        have kd := drewN_keep (fun _ => False) w nq; have h := h.keep kd (by simp); have ow := h.ow; have g1 := h.c1; have z1 := h.fz 1; refine wp_pushT rfl (.tmp 34) (.tmp 38) rfl _ s.l rfl ow ⟨lv, 1, b, 0⟩ rfl (by omega) ?_; intro g3 c3 w3 o3 k3 hg3; have c5 := k3.cell g1 h.ne; have f5 := (k3.frozen (a := ⟨p, 1, none⟩) (lt_of_cell (a := ⟨p, 0, none⟩) h.c0) h.ne).trans z1; have P := Lib.hid (h.push o3 k3 hg3); clear g0 g1 z1 ow o3 k3 hg3
        go_wp2
        go_ret2
        obtain ⟨_, v5, r5, k5, f5⟩ := P.out
        exact ⟨by simp, v5, r5, (kd.mono (by simp)).trans k5, f5⟩
end
end Go.Proofs.Ytodmpmnjkfnogaa
