/- Contracts of the document's own answer for layer 3, those that append: Take of one that was given back, Give, All, and NewPool; conditions: the Pool is one that NewPool made, in a state that calls can bring about. -/
import Derived.Test.YthmohehmpleciaaRef3
namespace Go.Proofs.Ythmohehmpleciaa
open Go.ChangeShapes Go.WideShapes Go.ChangeAt Go.RowKit
set_option linter.unusedVariables false

theorem step_append_own {P : Program} {ops : Array Oper} {o : Oper} {a : Act} {w : World} {K : Act → World → Prop} {Q : Exit → Act → World → Prop} {E : Prop} (hgd : o.guard = none) (s x : Operand) (t : TypeId)
    (ho : o.op = .call { callee := .builtin .append, args := #[s, x], argTypes := #[t, t] })
    (base : Nat) (e : TypeId) (i : TypeInfo) (z : Value) (size bytes : Nat) (ht : P.underlying t = some (.slice e)) (hi : P.info? e = some i) (hz : i.zero = some z)
    (hsize : i.size = size) (hby : i.bytes = bytes) (hzs : z.cells.size = size) (hsz : 0 < size)
    (v : Value) (n : Nat) (xs : List Value) (hs : a.eval s = v) (hown : w.ownsRow base e size v n xs)
    (ad : Addr) (m c : Nat) (news : List Value) (hx : a.eval x = .slice (some ad) m c) (hl : news.length = m * size) (hnews : ∀ j u, news[j]? = some u → w.cell? (ad.add j) = some u) (h1 : ∀ u ∈ news, u.oneCell' = true)
    (h63 : n + m ≤ maxLen) (hbytes : (n + m) * bytes ≤ 140737488355328) (hbase : base ≤ w.heap.size)
    (h : ∀ v' w', w'.ownsRow base e size v' (n + m) (xs ++ news) → w.grownBy w' v.ownBlock → (v' = .slice none 0 0 ↔ v = .slice none 0 0 ∧ m = 0) → K (a.put o.dst v') w') :
    if Region.wanted o (yielded ops a.tmps) = true then Oper.wp P o a w K Q else E := by
  have hw : Region.wanted o (yielded ops a.tmps) = true := by simp [Region.wanted, hgd]
  rw [if_pos hw]
  exact wp_append_own w s x t ho base e i z size bytes ht hi hz hsize hby hzs hsz v n xs hs hown ad m c news hx hl hnews h1 h63 hbytes hbase h
theorem info_int : (Try.prog.info? 3).map (fun i => (i.zero, i.size, i.bytes)) = some (some (.int .i64 0), 1, 8) := by kernel_rfl
theorem rest_lies {w : World} {g : Nat} {gs : List Int} {x : Int} (h : ∀ j : Nat, ∀ u, (gs ++ [x])[j]? = some u → w.cell? ⟨g, j, none⟩ = some (.int .i64 u)) : ∀ j u, (gs.map (Value.int .i64))[j]? = some u → w.cell? ((⟨g, 0, none⟩ : Addr).add j) = some u := by
  intro j u hu
  rw [List.getElem?_map, Option.map_eq_some_iff] at hu
  obtain ⟨z, hz, rfl⟩ := hu
  rw [add_plain, Nat.zero_add]
  refine h j z ?_
  obtain ⟨hj, _⟩ := List.getElem?_eq_some_iff.1 hz
  rw [List.getElem?_append_left hj]
  exact hz
theorem Keep.cell_all {S : Nat → Prop} {w w' : World} {g n c : Nat} {zs : List Int} (k : Keep S w w') (h : OwnI w (.slice (some ⟨g, 0, none⟩) n c) zs) (hn : ¬ S g := by simp) : ∀ j : Nat, ∀ u, zs[j]? = some u → w'.cell? ⟨g, j, none⟩ = some (.int .i64 u) := by
  intro j u hu
  obtain ⟨hj, rfl⟩ := List.getElem?_eq_some_iff.1 hu
  exact k.cell (h.cell j hj) hn
set_option maxHeartbeats 4000000 in
theorem rtake_given {w : World} {p b1 b2 : Nat} {v3 : Value} {s : St} (h : RefAt w p b1 b2 v3 s) (ok : Ok s) (gs : List Int) (i : Nat) (hg : s.given = gs ++ [(i : Int)]) (hf : i < s.tags.length) :
    Calls Try.prog 22 #[.pointer (some ⟨p, 0, none⟩)] w (RPost (.tuple #[.int .u64 (s.link i), .int .i64 0]) p b1 b2 v3 { s with taken := s.taken.set i true, given := gs } w) := by
  have g1 := h.c1
  have g2 := h.c2
  have g3 := h.c3
  have g4 := h.c4
  have z3 := h.fz 3
  have n1 := ok.n1
  have o3 := h.o3
  have ct := ok.ct
  have cn := cnt_nonneg s.taken
  have w0 := ok.w0
  have f1 := ok.f1
  rw [hg] at o3 ct
  have gl : gs.length + 1 ≤ 4096 := by simp at ct; omega
  clear ct cn w0 f1
  have q2 := h.p2
  have q1 := h.p1
  have q3 := h.b12
  rcases o3.form with ⟨_, e0⟩ | ⟨g, c, rfl, glt, gc, gm⟩
  · simp at e0
  · have hlen : (gs ++ [(i : Int)]).length = gs.length + 1 := by simp
    rw [hlen] at g3 gc o3
    have top := o3.cell gs.length (by simp)
    rw [List.getElem_append_right (Nat.le_refl _)] at top
    simp only [Nat.sub_self, List.getElem_cons_zero] at top
    have gm' : c ≤ 9223372036854775807 := by unfold maxLen at gm; omega
    have sb1 : IntKind.i64.wrap ((gs.length : Int) + 1 - 1) = gs.length := by rw [IntWalk.i64_in _ (by omega)]; omega
    have sb2 : (gs.length : Int) + 1 - 1 = gs.length := by omega
    have sb3 : (0 : Int) ≤ gs.length := by omega
    have sb4 : gs.length < gs.length + 1 := by omega
    have sb5 : IntKind.i64.wrap (gs.length : Int) = gs.length := IntWalk.i64_in _ (by omega)
    have sb6 : gs.length ≤ c := by omega
    have sb7 : (gs.length : Int) ≤ c := by omega
    have hpl : p < w.heap.size := lt_of_cell (a := ⟨p, 0, none⟩) h.c0
    have hb1 := h.foot_lt b1 (.inr (.inl rfl))
    have hb2 := h.foot_lt b2 (.inr (.inr (.inl rfl)))
    obtain ⟨i0, hi, hz0, hz1, hz2⟩ := info_parts info_int
    go_enter Try.func22, Try.ntmps22
    go_wp2
    go_quiet (fail)
    go_wp2
    have k5 := Keep.alloc (drewN_keep (fun _ => False) w (nq + 1)) (.cells #[] 3)
    have w5 := k5.cell g3 (by simp)
    go_region_law ((refine step_append_own rfl (.tmp 36) (.tmp 47) 73 rfl w.heap.size 3 i0 (.int .i64 0) 1 8 Try.underlying73 hi hz0 hz1 hz2 rfl (by decide) (.slice (some ⟨w.heap.size, 0, none⟩) 0 0) 0 [] rfl (World.ownsRow_lit _ #[] 0 (Nat.le_refl _) (by unfold maxLen; omega) rfl) ⟨g, 0, none⟩ gs.length c (gs.map (Value.int .i64)) rfl (by simp) (rest_lies (k5.cell_all o3)) (by simp [Value.oneCell']) (by unfold maxLen; omega) (by omega) (by simp) ?_; intro v' w' o' gr hne; obtain ⟨g', c', rfl, gb, gl'⟩ := own_some o' (fun e => absurd (hne.1 e).1 (by simp)); have k6 := keep_new (k5.below (Nat.le_refl _) (by simp)) gr (fun k hk => by cases hk; exact Nat.le_refl _); have w6 := (k6.cell (p := ⟨p, 3, none⟩) hpl).trans g3; have f6 := (k6.frozen (p := ⟨p, 3, none⟩) hpl).trans z3))
    all_goals
      have oo : OwnI w' (.slice (some ⟨g', 0, none⟩) gs.length c') gs := Own.of_base (zs := gs) (by simpa using o') rfl rfl
      have a0 := (h.keep (Keep.of_below k6 (fun _ => False)) (by simp)).setGiven oo (by simp [Value.ownBlock]; omega) (by simp [Value.ownBlock]; omega) (by simp [Value.ownBlock]; omega)
      have a1 := a0.setTaken i true
      have e2 := a0.c2
      have e5 := a0.tkAt2 ok.tl i hf
      have e6 := a0.o2.free i
      obtain ⟨y, ey⟩ : ∃ y, s.tk i = y := ⟨_, rfl⟩
      have e5 : (w'.setCell ⟨p, 3, none⟩ (.slice (some ⟨g', 0, none⟩) gs.length c')).cell? ⟨b2, i, none⟩ = some (.bool y) := by rw [← ey]; exact e5
      clear ey g1 g2 g3 g4 z3 w5 k5 gr o' hne w6 f6 top sb1 sb2 sb3 sb4 sb5 sb6 sb7 o3 hi hz0 hz1 hz2
      go_wp2_with fail
      refine (rlink_b a1 i hf n1 (tag_b ok i)).mono ?_
      rintro e w'' ⟨rfl, rfl⟩
      go_wp2
      go_ret2
      refine ⟨rfl, _, a1, ?_, fun k hk => .inr (by cases hk; exact gb)⟩
      exact (Keep.setCell (Keep.of_below k6 _) (p := ⟨p, 3, none⟩) (.inl rfl) _).setCell (p := ⟨b2, i, none⟩) (.inr (.inr (.inl rfl))) _
