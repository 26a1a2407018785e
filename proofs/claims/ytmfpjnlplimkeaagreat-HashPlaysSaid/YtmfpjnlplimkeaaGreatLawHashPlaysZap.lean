/- Several texts, one behind the other: HsK, HsD, HsP. -/
import Derived.Test.YtmfpjnlplimkeaaGreatLawHashPlaysZam
import Derived.Test.YtmfpjnlplimkeaaGreatLawHashPlaysZae
import Derived.Test.YtmfpjnlplimkeaaGreatLawHashPlaysZao
import Derived.Test.YtmfpjnlplimkeaaGreatLawHashPlaysZaj
import Derived.Test.YtmfpjnlplimkeaaGreatLawHashPlaysZan
import Derived.Test.YtmfpjnlplimkeaaGreatLawHashPlaysZaf
import Derived.Test.YtmfpjnlplimkeaaGreatLawHashPlaysZab
import Derived.Sort.OwnSortedInts
import Derived.Laws.AppendOwnNone
/- Package hash, seventh part: In and Keys of an Index in memory (slices.Sort by the kit's contract: text Sort). -/
namespace Go.Proofs.YtmfpjnlplimkeaaGreat
open Go.ChangeShapes Go.WideShapes Go.ChangeAt Go.RowKit
set_option linter.unusedVariables false

/-- 'l = append(l, y...)' of ints, y nil or a slice of one's own that holds something. -/
theorem wp_appN {w : World} {ops : Array Oper} {rest : List Oper} {o : Oper} {a : Act} {Q : Exit → Act → World → Prop} (hgd : o.guard = none) (s x : Operand)
    (ho : o.op = .call { callee := .builtin .append, args := #[s, x], argTypes := #[41, 41] })
    (B B2 : Nat) (hB : B ≤ w.heap.size) (v u : Value) (zs ys : List Int) (hs : a.eval s = v) (hx : a.eval x = u) (hown : OwnN B w v zs) (hu : OwnN B2 w u ys) (hne : ys = [] → u = .slice none 0 0) (hl : zs.length ≤ 100000) (hl2 : ys.length ≤ 100000)
    (h : ∀ v' w', OwnN B w' v' (zs ++ ys) → Keep (fun j => v.ownBlock = some j) w w' → (∀ g, v'.ownBlock = some g → v.ownBlock = some g ∨ w.heap.size ≤ g) → wpList Tryz.prog ops Q rest (a.put o.dst v') w') :
    wpList Tryz.prog ops Q (o :: rest) a w := by
  obtain ⟨i0, hi0, hz0, hz1, hz2⟩ := info_parts info_pushN
  by_cases h0 : ys = []
  · have e := hne h0
    subst h0; subst e
    refine wpList_append_own_none hgd s x 41 ho B 3 i0 1 Tryz.underlying41 hi0 v zs.length (zs.map (Value.int .i64)) hs hown hx ?_
    exact h v w (by simpa using hown) (Keep.refl _ w) (fun g hg => .inl hg)
  · obtain ⟨A, c, rfl, hA0, hA1⟩ := hu.shapeN
    cases A with
    | none => exact absurd (hA0 rfl) h0
    | some ad =>
      obtain ⟨g2, rfl⟩ := hA1 _ rfl
      have lp := List.length_pos_iff.2 h0
      refine wpList_append_lies _ hgd s x 41 ho B 3 i0 (.int .i64 0) 1 8 Tryz.underlying41 hi0 hz0 hz1 hz2 rfl (by decide) v zs.length (zs.map (Value.int .i64)) hs hown ⟨g2, 0, none⟩ ys.length c (ys.map (Value.int .i64)) hx (by simp) (fun j u hj => ?_) (fun u hu => ?_) lp (by unfold maxLen; omega) (by omega) hB w.heap.size rfl ?_
      · rw [List.getElem?_map, Option.map_eq_some_iff] at hj
        obtain ⟨z, hz, rfl⟩ := hj
        have hj : j < ys.length := (List.getElem?_eq_some_iff.1 hz).1
        rw [add_plain, Nat.zero_add, hu.cell j hj, List.getD_eq_getElem?_getD, hz]
        rfl
      · obtain ⟨x, _, rfl⟩ := List.mem_map.1 hu
        rfl
      · intro g c' w' o1 gr hg _
        refine h _ w' ?_ ⟨gr.os, gr.tape, gr.output, gr.size, fun j hj hn => gr.block j hj (fun e => hn e.symm)⟩ (fun g' e => ?_)
        · unfold OwnN
          rw [List.length_append, List.map_append]
          exact o1
        · cases e
          exact hg.imp_right (fun e => Nat.le_of_eq e.symm)
/-- The keys of entries. -/
def keysE (es : List (Nat × Nat)) : List Int := es.map (fun e => (e.1 : Int))
theorem keysE_esF (n : Nat) (l : List Nat) (qf : Nat → Nat) (b : Nat) : keysE (esF n l qf b) = bin n b l := by
  rw [bin_binN]
  simp [keysE, esF]
theorem keysE_step {es : List (Nat × Nat)} {k : Nat} (hk : k < es.length) : (keysE es).take (k + 1) = (keysE es).take k ++ [((es.getD k (0, 0)).1 : Int)] := by
  have hl : k < (keysE es).length := by simpa [keysE] using hk
  rw [List.take_add_one, List.getElem?_eq_getElem hl]
  simp [keysE, List.getD_eq_getElem?_getD, hk]
section
variable {w w' : World} {x p n : Nat} {s s' : RS} {h h' : HS} {mk : Option Nat} {vs : Nat → Value} {qf pf af o : Nat → Nat} {C C' : Int} {T : Nat → Prop}
theorem in_no (a : Hx w x p n s h mk vs qf pf af o C) (b : Int) (hb : b < 0 ∨ n ≤ b) :
    Calls Tryz.prog 20 #[.pointer (some ⟨x, 0, none⟩), .int .i64 b] w fun e w' => e = .returned (.slice none 0 0) ∧ w = w' := by
  have c1 := a.ix.c1
  by_cases h0 : b < 0
  · clear hb
    go_enter Tryz.func20, Tryz.ntmps20
    go_wp2
    go_ret
    exact ⟨rfl, rfl⟩
  · have h1 : (n : Int) ≤ b := by omega
    clear hb
    go_enter Tryz.func20, Tryz.ntmps20
    go_wp2
    go_ret
    exact ⟨rfl, rfl⟩
/-- What In leaves: a list of its own. -/
def InP (x p n : Nat) (s : RS) (h : HS) (vs : Nat → Value) (qf pf af o : Nat → Nat) (C : Int) (w : World) (zs : List Int) (e : Ending) (w' : World) : Prop :=
  ∃ v B o', e = .returned v ∧ OwnN w.heap.size w' v zs ∧ (zs = [] → v = .slice none 0 0) ∧ Hx w' x p n s h (some B) vs qf pf af o' C ∧ Keep (fun j => j = x) w w' ∧ (∀ g, g < w.heap.size → o' g = o g) ∧ ∀ g, v.ownBlock = some g → o' g = 0
set_option maxRecDepth 100000 in
set_option maxHeartbeats 1000000 in
theorem in_yes (a : Hx w x p n s h mk vs qf pf af o C) (b : Nat) (bn : b < n) :
    Calls Tryz.prog 20 #[.pointer (some ⟨x, 0, none⟩), .int .i64 b] w (InP x p n s h vs qf pf af o C w (bin n b h.put)) := by
  have c1 := a.ix.c1
  have hls := lists_any a.n1 a.ix a.bk.has
  have b0 : (b : Int) < (n : Int) := by omega
  have b1 : ¬ (n : Int) ≤ (b : Int) := by omega
  rw [← keysE_esF n h.put qf b]
  go_enter Tryz.func20, Tryz.ntmps20
  go_wp2_with fail
  refine hls.mono ?_
  rintro e w1 ⟨B, rfl, L⟩
  have cb := L.2.1.cell b bn
  have rw1 := L.2.1.row b bn
  have ls := esF_len n h.put qf b
  have sh := a.hk.short
  obtain ⟨es, ees⟩ : ∃ es, esF n h.put qf b = es := ⟨_, rfl⟩
  rw [ees] at rw1 ls
  obtain ⟨A, c, ev, hA0, hA1⟩ : ∃ A c, vs b = .slice A es.length c ∧ (A = none → es = []) ∧ ∀ ad, A = some ad → ∃ g, ad = ⟨g, 0, none⟩ := by
    rcases rw1.form with ⟨h1, h2⟩ | ⟨g, c, h1, _⟩
    · exact ⟨none, 0, by rw [h1, h2]; rfl, fun _ => h2, fun ad h => by cases h⟩
    · exact ⟨_, c, h1, fun h => (by cases h), fun ad h => by cases h; exact ⟨g, rfl⟩⟩
  rw [ev] at cb rw1
  have FIN : ∀ v wr, OwnN w1.heap.size wr v (keysE es) → ((keysE es) = [] → v = .slice none 0 0) → Below w1.heap.size w1 wr → InP x p n s h vs qf pf af o C w (keysE es) (.returned v) wr := fun v wr o2 hne bl => by
    have k2 := Keep.of_below bl (fun _ => False)
    have s1 := L.2.2.1.size
    refine ⟨v, B, _, rfl, ?_, hne, (a.looked L).quiet k2 (by simp) 0, L.2.2.1.trans (k2.mono (by simp)), fun g hg => ?_, fun g hg => relab_ge (OwnN.lt o2 hg).1⟩
    · obtain ⟨h1, h2⟩ := o2
      refine ⟨h1, h2.imp_right ?_⟩
      rintro ⟨g, c, cur, hv, hg, r⟩
      exact ⟨g, c, cur, hv, Nat.le_trans s1 hg, r⟩
    · rw [relab_lt (by omega), relab_lt hg]
  have FIN := Lib.hid FIN
  have EES := Lib.hid ees
  clear hls L ev ees
  go_wp2
  go_loopw [5, 7, 24] (fun v _ q wr => ∃ k : Nat, k ≤ es.length ∧ q = .int .i64 k ∧ OwnN w1.heap.size wr v ((keysE es).take k) ∧ (v = .slice none 0 0 ∨ 0 < k) ∧ Below w1.heap.size w1 wr) (fun _ _ q _ => es.length - (intOf q).toNat)
  case atStart => exact ⟨0, Nat.zero_le _, rfl, by rw [List.take_zero]; exact World.ownsRow_nil _ _ _ _, .inl rfl, Below.refl _ w1⟩
  case round =>
    obtain ⟨k, hk, rfl, o2, hv, bl⟩ := hrel
    by_cases hlt : k < es.length
    · cases A with
      | none => rw [hA0 rfl] at hlt; exact absurd hlt (Nat.not_lt_zero k)
      | some ad =>
        obtain ⟨g, rfl⟩ := hA1 _ rfl
        obtain ⟨d0, d1⟩ := OwnE.two (OwnE.below rw1 bl) k hlt
        have st := keysE_step hlt
        obtain ⟨y, ey⟩ : ∃ y, es.getD k (0, 0) = y := ⟨_, rfl⟩
        rw [ey] at d0 d1 st
        have wk : IntKind.i64.wrap ((k : Int) + 1) = (k : Int) + 1 := IntWalk.i64_in _ (by omega)
        have sz := bl.size
        have lt : ((keysE es).take k).length ≤ 100000 := by rw [List.length_take]; omega
        clear hA0 hA1 ey
        go_wp2_with (with_reducible refine wp_stop 32 rfl ?_)
        intro _
        have kA := Keep.alloc (Keep.refl (fun _ => False) wr) (.cells #[.int .i64 (y.1 : Int), .pointer (some ⟨y.2, 0, none⟩)] 80)
        have oA := OwnN.keep o2 kA (by simp)
        have bA := Below.alloc bl sz (.cells #[.int .i64 (y.1 : Int), .pointer (some ⟨y.2, 0, none⟩)] 80)
        have sA : w1.heap.size ≤ (wr.alloc (.cells #[.int .i64 (y.1 : Int), .pointer (some ⟨y.2, 0, none⟩)] 80)).heap.size := bA.size
        refine wp_pushN rfl (.tmp 28) (.tmp 31) rfl w1.heap.size sA u5 ((keysE es).take k) rfl oA (y.1 : Int) (by simp [Act.eval]) lt ?_
        intro g3 c3 w3 o3 k3 hg3
        have b3 := bA.trans (k3.below sA (fun j hj => (OwnN.lt o2 hj).1))
        have o4 : OwnN w1.heap.size w3 (.slice (some ⟨g3, 0, none⟩) (((keysE es).take k).length + 1) c3) ((keysE es).take (k + 1)) := by rw [st]; exact o3
        rw [List.length_take] at o4
        clear kA oA bA sA o3 k3 hg3 o2 bl d0 d1 st hv
        go_wp2
        go_roundw
        case rel => exact ⟨k + 1, by omega, by go_num, o4, .inr (by omega), b3⟩
        case measure => simp [intOf]; omega
    · obtain rfl : k = es.length := by omega
      have le : (keysE es).length = es.length := by simp [keysE]
      rw [List.take_of_length_le (by omega)] at o2
      have hne : (keysE es) = [] → u5 = .slice none 0 0 := fun e => by
        rcases hv with z | z
        · exact z
        · rw [e] at le; simp at le; omega
      have P := Lib.hid (FIN.out _ _ o2 hne bl)
      clear o2 hne bl hv rw1 cb c1
      go_wp2
      go_ret
      have P := P.out
      rw [← EES.out] at P
      exact P
theorem keys_nil (n : Nat) : (List.range 0).flatMap (fun b : Nat => bin n b ([] : List Nat)) = [] := rfl
/-- The keys of the buckets below k, one bucket behind the other. -/
def keysTo (n k : Nat) (l : List Nat) : List Int := (List.range k).flatMap (fun b : Nat => bin n b l)
theorem keysTo_step (n k : Nat) (l : List Nat) : keysTo n (k + 1) l = keysTo n k l ++ bin n k l := by
  simp [keysTo, List.range_succ]
theorem keysTo_len (n : Nat) (l : List Nat) : ∀ k, (keysTo n k l).length ≤ k * l.length
  | 0 => by simp [keysTo]
  | k + 1 => by
    have := keysTo_len n l k
    have h2 : (bin n k l).length ≤ l.length := bin_len
    rw [keysTo_step, List.length_append, Nat.succ_mul]
    omega
theorem keysTo_mem {n k : Nat} {l : List Nat} {z : Int} : z ∈ keysTo n k l ↔ ∃ b : Nat, b < k ∧ ∃ j : Nat, j ∈ l ∧ bktI (j : Int) n = b ∧ z = (j : Int) := by
  simp only [keysTo, List.mem_flatMap, List.mem_range, bin_mem]
theorem keysTo_nodup {n : Nat} {l : List Nat} (hl : l.Nodup) : ∀ k, (keysTo n k l).Nodup
  | 0 => by simp [keysTo]
  | k + 1 => by
    rw [keysTo_step, List.nodup_append]
    refine ⟨keysTo_nodup hl k, bin_nodup hl, fun a ha b hb e => ?_⟩
    subst e
    obtain ⟨c, hc, j, _, h1, h2⟩ := keysTo_mem.1 ha
    obtain ⟨i, _, h3, h4⟩ := bin_mem.1 hb
    have : i = j := by omega
    subst this
    omega
theorem hs_keys_mem {h : HS} : ∀ m (z : Int), z ∈ h.keys m ↔ ∃ j : Nat, j < m ∧ (h.ch j).isSome = true ∧ z = (j : Int)
  | 0, z => by simp [HS.keys]
  | m + 1, z => by
    have ih := hs_keys_mem (h := h) m z
    unfold HS.keys
    split
    · rename_i hm
      rw [List.mem_append, ih, List.mem_singleton]
      constructor
      · rintro (⟨j, h1, h2, h3⟩ | rfl)
        · exact ⟨j, by omega, h2, h3⟩
        · exact ⟨m, by omega, hm, rfl⟩
      · rintro ⟨j, h1, h2, h3⟩
        by_cases e : j = m
        · subst e; exact .inr h3
        · exact .inl ⟨j, by omega, h2, h3⟩
    · rename_i hm
      rw [ih]
      constructor
      · rintro ⟨j, h1, h2, h3⟩; exact ⟨j, by omega, h2, h3⟩
      · rintro ⟨j, h1, h2, h3⟩
        by_cases e : j = m
        · subst e; exact absurd h2 hm
        · exact ⟨j, by omega, h2, h3⟩
theorem hs_keys_rise {h : HS} : ∀ m, (h.keys m).Pairwise (fun a b => a < b)
  | 0 => by simp [HS.keys]
  | m + 1 => by
    unfold HS.keys
    split
    · rw [List.pairwise_append]
      refine ⟨hs_keys_rise m, by simp, fun a ha b hb => ?_⟩
      obtain ⟨j, hj, _, rfl⟩ := (hs_keys_mem m a).1 ha
      rw [List.mem_singleton] at hb
      omega
    · exact hs_keys_rise m
theorem sort_keys {h : HS} {s : RS} {n : Nat} (hk : HOk s h) (n0 : 1 ≤ n) (n1 : n ≤ 64) : (keysTo n n h.put).mergeSort (fun x y => decide (x ≤ y)) = h.keys 64 := by
  have p1 := List.mergeSort_perm (keysTo n n h.put) (fun x y => decide (x ≤ y))
  have nd1 : ((keysTo n n h.put).mergeSort (fun x y => decide (x ≤ y))).Nodup := p1.nodup_iff.2 (keysTo_nodup hk.nd n)
  have nd2 : (h.keys 64).Nodup := (hs_keys_rise 64).imp (fun h => by omega)
  have hp : ((keysTo n n h.put).mergeSort (fun x y => decide (x ≤ y))).Perm (h.keys 64) := by
    refine (List.perm_ext_iff_of_nodup nd1 nd2).2 fun z => ?_
    rw [p1.mem_iff, keysTo_mem, hs_keys_mem]
    constructor
    · rintro ⟨b, _, j, hj, _, hz⟩
      exact ⟨j, hk.lt j hj, (hk.pt j).1 hj, hz⟩
    · rintro ⟨j, hj, hs, hz⟩
      have := bktI_b j n (by omega) (by omega) (by omega) (by omega)
      exact ⟨(bktI j n).toNat, by omega, j, (hk.pt j).2 hs, by omega, hz⟩
  refine List.Perm.eq_of_pairwise (le := fun a b => a ≤ b) (fun a b _ _ h1 h2 => by omega) ?_ ((hs_keys_rise 64).imp (fun h => by omega)) hp
  have := List.pairwise_mergeSort (le := fun x y : Int => decide (x ≤ y)) (fun a b c h1 h2 => by simp at h1 h2 ⊢; omega) (fun a b => by simp; omega) (keysTo n n h.put)
  exact this.imp (fun h => by simpa using h)
/-- In the midst of Keys, and behind it. -/
structure Lists (x p n : Nat) (s : RS) (h : HS) (vs : Nat → Value) (qf pf af o : Nat → Nat) (C : Int) (w : World) (zs : List Int) (v : Value) (wr : World) : Prop where
  hx : ∃ mk o', Hx wr x p n s h mk vs qf pf af o' C ∧ (∀ g, g < w.heap.size → o' g = o g) ∧ ∀ g, v.ownBlock = some g → o' g = 0
  k : Keep (fun g => o g ≠ 0) w wr
  ow : OwnN w.heap.size wr v zs
set_option maxRecDepth 100000 in
set_option maxHeartbeats 1000000 in
theorem keys_all (a : Hx w x p n s h mk vs qf pf af o C) :
    Calls Tryz.prog 15 #[.pointer (some ⟨x, 0, none⟩)] w fun e w' => ∃ v, e = .returned v ∧ Lists x p n s h vs qf pf af o C w (h.keys 64) v w' := by
  have c1 := a.ix.c1
  have n1 := a.n1
  have n0 := a.n0
  have sk := sort_keys a.hk n0 n1
  have sh := a.hk.short
  go_enter Tryz.func15, Tryz.ntmps15
  go_wp2
  go_loopw [3, 4, 9] (fun v _ q wr => ∃ k : Nat, k ≤ n ∧ q = .int .i64 k ∧ Lists x p n s h vs qf pf af o C w (keysTo n k h.put) v wr) (fun _ _ q _ => n - (intOf q).toNat)
  case atStart => exact ⟨0, Nat.zero_le _, rfl, ⟨mk, o, a, fun g _ => rfl, fun g hg => by cases hg⟩, Keep.refl _ w, World.ownsRow_nil _ _ _ _⟩
  case round =>
    obtain ⟨k, hk, rfl, D⟩ := hrel
    by_cases hlt : k < n
    · obtain ⟨mk1, o1, a1, e1, z1⟩ := D.hx
      have hin := in_yes a1 k hlt
      have kl := keysTo_len n h.put k
      have bl : (bin n k h.put).length ≤ h.put.length := bin_len
      have ll : (keysTo n k h.put).length ≤ 100000 := Nat.le_trans kl (Nat.le_trans (Nat.mul_le_mul hk sh) (by omega))
      have wk : IntKind.i64.wrap ((k : Int) + 1) = (k : Int) + 1 := IntWalk.i64_in _ (by omega)
      go_wp2_with fail
      refine hin.mono ?_
      rintro e w2 ⟨u, B, o2, rfl, ou, hne, a2, k2, e2, z2⟩
      clear hin
      have s1 := D.k.size
      have s2 := k2.size
      have nx : ∀ g, u3.ownBlock = some g → ¬ g = x := fun g hg e => by have t1 := z1 g hg; rw [e] at t1; have t2 := a1.ox; omega
      have ov2 := OwnN.keep D.ow k2 nx
      have lv : ∀ g, u3.ownBlock = some g → g < wr.heap.size := fun g hg => (OwnN.lt D.ow hg).2
      go_wp2_with (with_reducible refine wp_stop 16 rfl ?_)
      intro _
      refine wp_appN rfl (.tmp 12) (.tmp 15) rfl w.heap.size wr.heap.size (by omega) u3 u (keysTo n k h.put) (bin n k h.put) rfl rfl ov2 ou hne ll (by omega) ?_
      intro v3 w3 o3 k3 hg3
      have D3 : Lists x p n s h vs qf pf af o C w (keysTo n (k + 1) h.put) v3 w3 := by
        refine ⟨⟨_, _, a2.quiet k3 (fun g hg e => (e2 g (lv g e)).trans (z1 g e)) 0, fun g hg => ?_, fun g hg => ?_⟩, ?_, ?_⟩
        · rw [relab_lt (by omega), e2 g (by omega), e1 g hg]
        · rcases hg3 g hg with z | z
          · rw [relab_lt (Nat.lt_of_lt_of_le (lv g z) s2), e2 g (lv g z), z1 g z]
          · exact relab_ge z
        · refine (D.k.then k2 (fun g hg e => ?_)).then k3 (fun g hg e => ?_)
          · have := a1.ox; rw [← e, e1 g hg] at this; omega
          · have := (OwnN.lt D.ow e).1; omega
        · rw [keysTo_step]; exact o3
      have D3 := Lib.hid D3
      clear D ou a2 k2 ov2 o3 k3 hg3 a1
      go_wp2
      go_roundw
      case rel => exact ⟨k + 1, by omega, by go_num, D3.out⟩
      case measure => simp [intOf]; omega
    · obtain rfl : k = n := by omega
      obtain ⟨mk1, o1, a1, e1, z1⟩ := D.hx
      have kl := keysTo_len k h.put k
      obtain ⟨A, c, ev, hA0, hA1⟩ := D.ow.shapeN
      cases A with
      | none =>
        have h0 := hA0 rfl
        rw [h0] at ev sk
        have ek : h.keys 64 = [] := by rw [← sk]; simp
        subst ev
        have R : Lists x p k s h vs qf pf af o C w (h.keys 64) (.slice none 0 c) wr := by rw [ek, ← h0]; exact D
        have R := Lib.hid R
        clear D a1 hA0 hA1 sk
        go_wp2_with fail
        refine (Tryz.slices_Sort_int_none none c wr).mono ?_
        rintro e w' ⟨rfl, rfl⟩
        go_wp2
        go_ret
        exact ⟨_, rfl, R.out⟩
      | some ad =>
        obtain ⟨g, rfl⟩ := hA1 _ rfl
        subst ev
        obtain ⟨ts, ets⟩ : ∃ ts, keysTo k k h.put = ts := ⟨_, rfl⟩
        have ow := D.ow
        rw [ets] at sk ow kl
        obtain ⟨_, h2⟩ := id ow
        rcases h2 with ⟨h2, _⟩ | ⟨g', c', cur, hv, hb, hh, hl, hm, hs, ht⟩
        · simp at h2
        simp at hv
        obtain ⟨rfl, rfl⟩ := hv
        have hso := Tryz.slices_Sort_int g 0 c ts wr (holds_of_blockI hh (by simpa using ht)) (lt_of_block hh) (by have := Nat.mul_le_mul n1 sh; omega)
        rw [sk] at hso
        have lk : (h.keys 64).length = ts.length := by rw [← sk]; simp
        have F : ∀ nn os, Lists x p k s h vs qf pf af o C w (h.keys 64) (.slice (some ⟨g, 0, none⟩) ts.length c) (Sort.grow (Sort.putRow (Value.int .i64) (Sort.ahead wr nn) g 0 (h.keys 64).toArray) os) := fun nn os => by
          have gr : wr.grownBy (Sort.grow (Sort.putRow (Value.int .i64) (Sort.ahead wr nn) g 0 (h.keys 64).toArray) os) (some g) := grownBy_sortedI _
          have k4 : Keep (fun j => j = g) wr (Sort.grow (Sort.putRow (Value.int .i64) (Sort.ahead wr nn) g 0 (h.keys 64).toArray) os) := ⟨gr.os, gr.tape, gr.output, gr.size, fun j hj hn => gr.block j hj (fun e => hn (by cases e; rfl))⟩
          refine ⟨⟨_, _, a1.quiet k4 (fun j hj e => by rw [e]; exact z1 g rfl) 0, fun j hj => ?_, fun j hj => ?_⟩, D.k.then k4 (fun j hj e => by rw [e] at hj; omega), ?_⟩
          · rw [relab_lt (Nat.lt_of_lt_of_le hj D.k.size), e1 j hj]
          · cases hj
            rw [relab_lt (lt_of_block hh)]
            exact z1 g rfl
          · unfold OwnN
            rw [lk]
            exact ownsRow_sortedI lk hb hh hl hm hs
        have F := Lib.hid F
        rw [ets]
        clear D a1 hA0 hA1 sk ow ht hs hm hl hh ets
        go_wp2_with fail
        refine hso.mono ?_
        rintro e w' ⟨rfl, nn, os, rfl⟩
        have F := Lib.hid (F.out nn os)
        generalize Sort.grow _ _ = W at F ⊢
        clear hso
        go_wp2
        go_ret
        exact ⟨_, rfl, F.out⟩
end
end Go.Proofs.YtmfpjnlplimkeaaGreat
/- An Index over a Store, as layer 10's statements walk with it: the contracts of package hash, and of the statements' helper awake; condition: lists of 100 links at most, 900,000,000 looks at most. -/
namespace Go.Proofs.YtmfpjnlplimkeaaGreat
open Go.ChangeShapes Go.WideShapes Go.ChangeAt Go.RowKit
set_option linter.unusedVariables false

/-- Since W a Store p and an Index x of n buckets over it have been made, in new blocks; the Store is in state s, the Index in state h; whatever D says is a key's Chain is one; at most 64 k looks were had; nothing of W has turned. -/
structure Hsh (W w : World) (x p : Nat) (n : Nat) (S : Nat → Prop) (s : RS) (h : HS) (D : Nat → Nat → Prop) (k : Nat) : Prop where
  core : ∃ mk vs qf pf af o, Hx w x p n s h mk vs qf pf af o (64 * (k : Int)) ∧ (∀ j, S j ↔ (o j ≠ 0 ∧ j < w.heap.size)) ∧ ∀ q key, D q key → (h.ch key).isSome = true ∧ q = qf key
  c : s.c ≤ 64 * (k : Int)
  ok : ROk s
  hk : HOk s h
  g : ∀ k, S k → W.heap.size ≤ k
  lt : ∀ k, S k → k < w.heap.size
  b : Below W.heap.size W w
/-- One Chain more that is known. -/
def also (D : Nat → Nat → Prop) (q key : Nat) : Nat → Nat → Prop := fun q' k' => D q' k' ∨ (q' = q ∧ k' = key)
def less (D : Nat → Nat → Prop) (key : Nat) : Nat → Nat → Prop := fun q' k' => D q' k' ∧ k' ≠ key
def noD : Nat → Nat → Prop := fun _ _ => False
theorem HOk.set {s s' : RS} {h : HS} (a : HOk s h) {key : Nat} {l l' : List Int} (hl : h.ch key = some l) (ln : Linked s' l') (oth : ∀ k l2, k ≠ key → h.ch k = some l2 → Linked s' l2) (dj : ∀ k l2, k ≠ key → h.ch k = some l2 → ∀ x ∈ l', x ∉ l2) : HOk s' (h.set key l') := by
  refine ⟨fun k l2 e => ?_, fun k k' l2 l3 hne e e' => ?_, fun k => ?_, a.lt, a.nd⟩
  · by_cases z : k = key
    · subst z; rw [HS.set_at] at e; cases e; exact ln
    · rw [HS.set_ne z] at e; exact oth k l2 z e
  · by_cases z : k = key
    · subst z; rw [HS.set_at] at e; cases e
      rw [HS.set_ne (Ne.symm hne)] at e'
      exact dj k' l3 (Ne.symm hne) e'
    · rw [HS.set_ne z] at e
      by_cases z' : k' = key
      · subst z'; rw [HS.set_at] at e'; cases e'
        exact fun x hx hx' => dj k l2 z e x hx' hx
      · rw [HS.set_ne z'] at e'; exact a.dj k k' l2 l3 hne e e'
  · show k ∈ h.put ↔ _
    by_cases z : k = key
    · subst z; rw [HS.set_at, a.pt k, hl]; simp
    · rw [HS.set_ne z]; exact a.pt k
section
variable {W w w' : World} {x p q n : Nat} {S S' : Nat → Prop} {s s' : RS} {h h' : HS} {D D' : Nat → Nat → Prop} {k k' : Nat} {mk : Option Nat} {vs : Nat → Value} {qf qf' pf af o o' : Nat → Nat} {C C' : Int}
theorem Hsh.goes_at (h1 : Hsh W w x p n S s h D k) (hS : ∀ j, S j ↔ (o j ≠ 0 ∧ j < w.heap.size)) (a : Hx w' x p n s' h' mk vs qf' pf af o' C') (kk : Keep (fun g => o g ≠ 0) w w') (ho : ∀ g, g < w.heap.size → o' g = o g) (hC : C' ≤ 64 * (k' : Int)) (hc : s'.c ≤ 64 * (k' : Int)) (hD : ∀ q key, D' q key → (h'.ch key).isSome = true ∧ q = qf' key) :
    Hsh W w' x p n (fun j => o' j ≠ 0 ∧ j < w'.heap.size) s' h' D' k' ∧ VKeep S (fun j => o' j ≠ 0 ∧ j < w'.heap.size) w w' := by
  have k2 : Keep S w w' := (Keep.refl S w).then kk (fun g hg e => (hS g).2 ⟨e, hg⟩)
  have hs : ∀ j, (o' j ≠ 0 ∧ j < w'.heap.size) → S j ∨ w.heap.size ≤ j := fun j hj => by
    by_cases e : j < w.heap.size
    · exact .inl ((hS j).2 ⟨by rw [← ho j e]; exact hj.1, e⟩)
    · exact .inr (by omega)
  have sz := h1.b.size
  refine ⟨⟨⟨mk, vs, qf', pf, af, o', a.up hC, fun j => Iff.rfl, hD⟩, hc, a.ok, a.hk, fun j hj => ?_, fun j hj => hj.2, h1.b.trans (k2.below sz h1.g)⟩, k2, hs⟩
  rcases hs j hj with e | e
  · exact h1.g j e
  · omega
theorem Hsh.goes (h1 : Hsh W w x p n S s h D k) (hS : ∀ j, S j ↔ (o j ≠ 0 ∧ j < w.heap.size)) (G : Goes x p n w o w' s' h' qf' C') (hC : C' ≤ 64 * (k' : Int)) (hc : s'.c ≤ 64 * (k' : Int)) (hD : ∀ q key, D' q key → (h'.ch key).isSome = true ∧ q = qf' key) :
    ∃ S', Hsh W w' x p n S' s' h' D' k' ∧ VKeep S S' w w' := by
  obtain ⟨mk, vs, pf, af, o', a, kk, ho⟩ := G
  exact ⟨_, h1.goes_at hS a kk ho hC hc hD⟩
theorem Hx.seen_goes (a : Hx w x p n s h mk vs qf pf af o C) (sn : Seen x p n s h vs qf pf af o C w w') : Goes x p n w o w' s h qf C := by
  obtain ⟨B, a2, k2⟩ := sn
  exact ⟨_, _, _, _, _, a2, k2.mono (fun j e => by rw [e, a.ox]; omega), fun g hg => relab_lt hg⟩
theorem Hx.quiet_goes (a : Hx w x p n s h mk vs qf pf af o C) (kk : Keep (fun _ => False) w w') : Goes x p n w o w' s h qf C :=
  ⟨_, _, _, _, _, a.quiet kk (by simp) 0, kk.mono (fun j e => e.elim), fun g hg => relab_lt hg⟩
theorem Hx.chain_goes (a : Hx w x p n s h mk vs qf pf af o C) {key : Nat} {l l' : List Int} {y : Int} {SV SV' : Nat → Prop} (hl : h.ch key = some l) (hs : ∀ g, SV g → o g = 1) (g1 : CG w' p SV' s' (pf key) (af key) [y] C' (qf key) 0) (t : Turn (pf key) (af key) SV SV' w w') (hy : y = l'.headD 0) (hC : C ≤ C') (hk' : HOk s' (h.set key l')) : Goes x p n w o w' s' (h.set key l') qf C' := by
  have c := a.ch key l hl
  refine ⟨_, _, _, _, _, a.chain hl hs g1 t hy hC hk', t.k.mono (fun j e => ?_), fun g hg => relab_lt hg⟩
  rcases e with e | e | e
  · have := hs j e; omega
  · have := c.l1; rw [e]; omega
  · have := c.l2; rw [e]; omega
theorem Hsh.own (h1 : Hsh W w x p n S s h D k) {T : Nat → Prop} (kk : Keep T w w') (hT : ∀ g, T g → ¬ S g ∧ W.heap.size ≤ g) : Hsh W w' x p n S s h D k := by
  obtain ⟨mk, vs, qf, pf, af, o, a, hS, hD⟩ := h1.core
  refine ⟨⟨mk, vs, qf, pf, af, _, a.quiet kk (fun g hg e => ?_) 0, fun j => ?_, hD⟩, h1.c, h1.ok, h1.hk, h1.g, fun x hx => Nat.lt_of_lt_of_le (h1.lt x hx) kk.size, h1.b.trans (kk.below h1.b.size (fun g hg => (hT g hg).2))⟩
  · by_cases z : o g = 0
    · exact z
    · exact absurd ((hS g).2 ⟨z, hg⟩) (hT g e).1
  · have sz := kk.size
    by_cases e : j < w.heap.size
    · rw [relab_lt e, hS j]
      exact ⟨fun z => ⟨z.1, by omega⟩, fun z => ⟨z.1, e⟩⟩
    · rw [relab_ge (by omega), hS j]
      exact ⟨fun z => absurd z.2 e, fun z => absurd rfl z.1⟩
theorem Hsh.quiet (h1 : Hsh W w x p n S s h D k) (kk : Keep (fun _ => False) w w') : Hsh W w' x p n S s h D k := h1.own kk (fun g hg => hg.elim)
theorem Hsh.up (h1 : Hsh W w x p n S s h D k) {m : Nat} (hk : k ≤ m) : Hsh W w x p n S s h D m := by
  obtain ⟨mk, vs, qf, pf, af, o, a, hS, hD⟩ := h1.core
  exact ⟨⟨mk, vs, qf, pf, af, o, a.up (by omega), hS, hD⟩, by have := h1.c; omega, h1.ok, h1.hk, h1.g, h1.lt, h1.b⟩
theorem Hsh.fewer (h1 : Hsh W w x p n S s h D k) (hd : ∀ q key, D' q key → D q key) : Hsh W w x p n S s h D' k := by
  obtain ⟨mk, vs, qf, pf, af, o, a, hS, hD⟩ := h1.core
  exact ⟨⟨mk, vs, qf, pf, af, o, a, hS, fun q key e => hD q key (hd q key e)⟩, h1.c, h1.ok, h1.hk, h1.g, h1.lt, h1.b⟩
theorem x_new (hr : Rec W w p S s k) (n : Nat) (n0 : 1 ≤ n) (n1 : n ≤ 64) :
    Calls Tryz.prog 6 #[.pointer (some ⟨p, 0, none⟩), .int .i64 n] w fun y w' => ∃ x S' s', y = .returned (.tuple #[.pointer (some ⟨x, 0, none⟩), .int .i64 0]) ∧ s'.s = s.s ∧ Hsh W w' x p n S' s' HS.new noD (k + 1000) ∧ VKeep S S' w w' := by
  have b0 : ¬ (n : Int) < 1 := by omega
  have b1 : ¬ 64 < (n : Int) := by omega
  go_enter Tryz.func6, Tryz.ntmps6
  go_wp2
  go_ret2
  have kA := Keep.alloc (Keep.refl (fun _ => False) w) (.cells #[.pointer (some ⟨p, 0, none⟩), .int .i64 n, .int .u32 0, .int .i32 0, .int .u32 0, .slice none 0 0] 76)
  have o2 : ∀ j, S j → j < w.heap.size := fun j hj => hr.h.lt j hj
  have hc := hr.c
  have sz := hr.b.size
  refine ⟨w.heap.size, rfl, fun j => S j ∨ j = w.heap.size, s, rfl, ⟨⟨none, fun _ => .slice none 0 0, fun _ => 0, fun _ => 0, fun _ => 0, (open Classical in fun j => if S j then 1 else if j = w.heap.size then 2 else 0), ⟨hr.ok, hok_new s, ⟨S, hr.h.keep kA (by simp), fun g hg => if_pos hg⟩, ⟨by simp, by simp, by simp [dnV], by simp, by simp [bkV], fun i => by simp⟩, ?_, ⟨⟨rfl, rfl⟩, fun B e => (by cases e)⟩, fun k l e => (by cases e), n0, n1, by omega⟩, fun j => ?_, fun q key e => e.elim⟩, by omega, hr.ok, hok_new s, fun j hj => ?_, fun j hj => ?_, hr.b.trans (kA.below sz (by simp))⟩, kA.mono (fun j e => e.elim), fun j hj => ?_⟩
  · exact (if_neg (fun e => by have := o2 _ e; omega)).trans (if_pos rfl)
  · have hz := kA.size
    by_cases e : S j
    · have := o2 j e
      simp only [e, if_true, true_or, true_iff]
      exact ⟨by omega, by omega⟩
    · by_cases e2 : j = w.heap.size
      · subst e2
        simp [e]
      · simp [e, e2]
  · rcases hj with e | e
    · exact hr.g j e
    · omega
  · rcases hj with e | e
    · exact Nat.lt_of_lt_of_le (o2 j e) kA.size
    · rw [e]; simp
  · rcases hj with e | e
    · exact .inl e
    · exact .inr (by omega)
theorem x_new_no (v : Option Addr) (n : Int) (hn : v = none ∨ n < 1 ∨ 64 < n) (w : World) : Calls Tryz.prog 6 #[.pointer v, .int .i64 n] w fun y w' => y = .returned (.tuple #[.pointer none, .int .i64 1]) ∧ Below w.heap.size w w' := by
  cases v with
  | none =>
    go_enter Tryz.func6, Tryz.ntmps6
    go_wp2
    go_ret2
    exact ⟨rfl, Below.refl _ w⟩
  | some v =>
    have hn : n < 1 ∨ 64 < n := by simpa using hn
    by_cases h0 : n < 1
    · clear hn
      go_enter Tryz.func6, Tryz.ntmps6
      go_wp2
      go_ret2
      exact ⟨rfl, Below.refl _ w⟩
    · have h1 : 64 < n := by omega
      clear hn
      go_enter Tryz.func6, Tryz.ntmps6
      go_wp2
      go_ret2
      exact ⟨rfl, Below.refl _ w⟩
theorem x_bucket (key n : Int) (w : World) : Calls Tryz.prog 18 #[.int .i64 key, .int .i64 n] w fun y w' => y = .returned (.int .i64 (bktI key n)) ∧ w = w' := bucket_any key n w
theorem x_make (h1 : Hsh W w x p n S s h D k) (hk : k ≤ 900000000) (key val b e : Int) (hb : U64 b) (he : U64 e) (l f : Int) (s' : RS) (hs : s.make key val b e = (l, f, s')) :
    Calls Tryz.prog 8 #[.pointer (some ⟨p, 0, none⟩), .int .i64 key, .int .i64 val, .int .u64 b, .int .u64 e] w fun y w' => y = .returned (.tuple #[.int .u64 l, .int .i64 f]) ∧ ∃ S', Hsh W w' x p n S' s' h D (k + 1000) ∧ VKeep S S' w w' := by
  obtain ⟨mk, vs, qf, pf, af, o, a, hS, hD⟩ := h1.core
  obtain ⟨SV, hv, hsv⟩ := a.st.st
  have ok := rOk_make h1.ok key val b e hb he
  have cc := make_c s key val b e
  have ln : ∀ k l, h.ch k = some l → Linked (s.make key val b e).2.2 l := fun k l hl => (h1.hk.ln k l hl).make h1.ok key val b e
  have hc := h1.c
  refine (vmake_any hv h1.ok (by omega) key val b e hb he).mono ?_
  rw [hs] at ok cc ln ⊢
  rintro y w1 ⟨rfl, S1, v1, k1, g1⟩
  refine ⟨rfl, h1.goes hS ⟨_, _, _, _, _, a.store hsv v1 ok ⟨ln, h1.hk.dj, h1.hk.pt, h1.hk.lt, h1.hk.nd⟩ ⟨k1, g1⟩, k1.mono (fun j e => by have := hsv j e; omega), fun g hg => relab_lt hg⟩ (by omega) (by rw [cc]; omega) hD⟩
theorem x_put_new (h1 : Hsh W w x p n S s h D k) (hk : k ≤ 900000000) (key : Nat) (k0 : key < 64) (hn : h.ch key = none) :
    Calls Tryz.prog 7 #[.pointer (some ⟨x, 0, none⟩), .int .i64 key] w fun y w' => ∃ q S' s', y = .returned (.tuple #[.pointer (some ⟨q, 0, none⟩), .int .i64 0]) ∧ s'.s = s.s ∧ Hsh W w' x p n S' s' (h.add key) (also D q key) (k + 1000) ∧ VKeep S S' w w' := by
  obtain ⟨mk, vs, qf, pf, af, o, a, hS, hD⟩ := h1.core
  have hc := h1.c
  have hm : key ∉ h.put := fun e => by have := (h1.hk.pt key).1 e; rw [hn] at this; cases this
  refine (put_new a key (by omega) hm).mono ?_
  rintro y w1 ⟨q, rfl, G⟩
  obtain ⟨S', b1, b2⟩ := h1.goes (k' := k + 1000) (D' := also D q key) hS G (by omega) (by omega) (fun q' k' e => by
    by_cases z : k' = key
    · subst z
      rw [upd_at]
      refine ⟨by rw [HS.add_at]; rfl, ?_⟩
      rcases e with e | e
      · have := (hD q' k' e).1; rw [hn] at this; cases this
      · exact e.1
    · rw [upd_ne z]
      rcases e with e | e
      · rw [HS.add_ne z]; exact hD q' k' e
      · exact absurd e.2 z)
  exact ⟨q, S', s, rfl, rfl, b1, b2⟩
theorem x_put_old (h1 : Hsh W w x p n S s h D k) (hk : k ≤ 900000000) (key : Nat) (l : List Int) (hn : h.ch key = some l) :
    Calls Tryz.prog 7 #[.pointer (some ⟨x, 0, none⟩), .int .i64 key] w fun y w' => ∃ q S' s', y = .returned (.tuple #[.pointer (some ⟨q, 0, none⟩), .int .i64 0]) ∧ s'.s = s.s ∧ Hsh W w' x p n S' s' h (also D q key) (k + 1000) ∧ VKeep S S' w w' := by
  obtain ⟨mk, vs, qf, pf, af, o, a, hS, hD⟩ := h1.core
  have hc := h1.c
  have hm : key ∈ h.put := (h1.hk.pt key).2 (by rw [hn]; rfl)
  refine (put_old a key hm).mono ?_
  rintro y w1 ⟨rfl, G⟩
  obtain ⟨S', b1, b2⟩ := h1.goes (k' := k + 1000) (D' := also D (qf key) key) hS (a.seen_goes G) (by omega) (by omega) (fun q' k' e => by
    rcases e with e | ⟨rfl, rfl⟩
    · exact hD q' k' e
    · exact ⟨by rw [hn]; rfl, rfl⟩)
  exact ⟨_, S', s, rfl, rfl, b1, b2⟩
theorem x_put_no (h1 : Hsh W w x p n S s h D k) (hk : k ≤ 900000000) (key : Int) (hn : key < 0 ∨ 63 < key) :
    Calls Tryz.prog 7 #[.pointer (some ⟨x, 0, none⟩), .int .i64 key] w fun y w' => ∃ S' s', y = .returned (.tuple #[.pointer none, .int .i64 1]) ∧ s'.s = s.s ∧ Hsh W w' x p n S' s' h D (k + 1000) ∧ VKeep S S' w w' := by
  obtain ⟨mk, vs, qf, pf, af, o, a, hS, hD⟩ := h1.core
  have hc := h1.c
  refine (put_no a key hn).mono ?_
  rintro y w1 ⟨rfl, k1⟩
  obtain ⟨S', b1, b2⟩ := h1.goes (k' := k + 1000) (D' := D) hS (a.quiet_goes k1) (by omega) (by omega) hD
  exact ⟨S', s, rfl, rfl, b1, b2⟩
theorem x_find_yes (h1 : Hsh W w x p n S s h D k) (hk : k ≤ 900000000) (key : Nat) (l : List Int) (hn : h.ch key = some l) :
    Calls Tryz.prog 13 #[.pointer (some ⟨x, 0, none⟩), .int .i64 key] w fun y w' => ∃ q S' s', y = .returned (.tuple #[.pointer (some ⟨q, 0, none⟩), .bool true]) ∧ s'.s = s.s ∧ Hsh W w' x p n S' s' h (also D q key) (k + 1000) ∧ VKeep S S' w w' := by
  obtain ⟨mk, vs, qf, pf, af, o, a, hS, hD⟩ := h1.core
  have hc := h1.c
  have hm : key ∈ h.put := (h1.hk.pt key).2 (by rw [hn]; rfl)
  refine (find_yes a key hm).mono ?_
  rintro y w1 ⟨rfl, G⟩
  obtain ⟨S', b1, b2⟩ := h1.goes (k' := k + 1000) (D' := also D (qf key) key) hS (a.seen_goes G) (by omega) (by omega) (fun q' k' e => by
    rcases e with e | ⟨rfl, rfl⟩
    · exact hD q' k' e
    · exact ⟨by rw [hn]; rfl, rfl⟩)
  exact ⟨_, S', s, rfl, rfl, b1, b2⟩
theorem x_find_no (h1 : Hsh W w x p n S s h D k) (hk : k ≤ 900000000) (key : Int) (hn : key < 0 ∨ 63 < key ∨ h.ch key.toNat = none) :
    Calls Tryz.prog 13 #[.pointer (some ⟨x, 0, none⟩), .int .i64 key] w fun y w' => ∃ S' s', y = .returned (.tuple #[.pointer none, .bool false]) ∧ s'.s = s.s ∧ Hsh W w' x p n S' s' h D (k + 1000) ∧ VKeep S S' w w' := by
  obtain ⟨mk, vs, qf, pf, af, o, a, hS, hD⟩ := h1.core
  have hc := h1.c
  refine (find_no a key (hn.imp_right (fun z => z.imp_right (fun z e => by have := (h1.hk.pt _).1 e; rw [z] at this; cases this)))).mono ?_
  rintro y w1 ⟨rfl, G⟩
  have G : Goes x p n w o w1 s h qf (64 * (k : Int)) := by
    rcases G with e | e
    · exact a.quiet_goes e
    · exact a.seen_goes e
  obtain ⟨S', b1, b2⟩ := h1.goes (k' := k + 1000) (D' := D) hS G (by omega) (by omega) hD
  exact ⟨S', s, rfl, rfl, b1, b2⟩
theorem x_drop_yes (h1 : Hsh W w x p n S s h D k) (hk : k ≤ 900000000) (key : Nat) (hn : h.ch key = some []) :
    Calls Tryz.prog 10 #[.pointer (some ⟨x, 0, none⟩), .int .i64 key] w fun y w' => ∃ S' s', y = .returned (.bool true) ∧ s'.s = s.s ∧ Hsh W w' x p n S' s' (h.drop key) (less D key) (k + 1000) ∧ VKeep S S' w w' := by
  obtain ⟨mk, vs, qf, pf, af, o, a, hS, hD⟩ := h1.core
  have hc := h1.c
  refine (drop_yes a key hn (by omega) (by omega)).mono ?_
  rintro y w1 ⟨rfl, G⟩
  obtain ⟨S', b1, b2⟩ := h1.goes (k' := k + 1000) (D' := less D key) hS G (by omega) (by rw [more_c]; omega) (fun q' k' e => by
    have := hD q' k' e.1
    rw [HS.drop_ne e.2]
    exact this)
  refine ⟨S', _, rfl, ?_, b1, b2⟩
  rfl
theorem x_drop_no (h1 : Hsh W w x p n S s h D k) (hk : k ≤ 900000000) (key : Int) (hn : key < 0 ∨ 63 < key ∨ h.ch key.toNat = none ∨ ∃ y l, h.ch key.toNat = some (y :: l)) (hl : ∀ l, h.ch key.toNat = some l → l.length ≤ 100) :
    Calls Tryz.prog 10 #[.pointer (some ⟨x, 0, none⟩), .int .i64 key] w fun y w' => ∃ S' s', y = .returned (.bool false) ∧ s'.s = s.s ∧ Hsh W w' x p n S' s' h D (k + 1000) ∧ VKeep S S' w w' := by
  obtain ⟨mk, vs, qf, pf, af, o, a, hS, hD⟩ := h1.core
  have hc := h1.c
  by_cases hf : 0 ≤ key ∧ ∃ y l, h.ch key.toNat = some (y :: l)
  · obtain ⟨h0, y, l, e⟩ := hf
    obtain ⟨key, rfl⟩ : ∃ k : Nat, key = k := ⟨key.toNat, by omega⟩
    have e : h.ch key = some (y :: l) := e
    have h64 := hl _ e
    refine (drop_full a key y l e h64 (by omega) (by omega)).mono ?_
    rintro z w1 ⟨rfl, G⟩
    obtain ⟨S', b1, b2⟩ := h1.goes (k' := k + 1000) (D' := D) hS G (by omega) (by rw [more_c]; omega) hD
    refine ⟨S', _, rfl, ?_, b1, b2⟩
    rfl
  · have hn2 : key < 0 ∨ 63 < key ∨ key.toNat ∉ h.put := by
      by_cases z : key < 0
      · exact .inl z
      · rcases hn with e | e | e | e
        · exact .inl e
        · exact .inr (.inl e)
        · exact .inr (.inr (fun m => by have := (h1.hk.pt _).1 m; rw [e] at this; cases this))
        · exact absurd ⟨by omega, e⟩ hf
    refine (drop_out a key hn2).mono ?_
    rintro y w1 ⟨rfl, G⟩
    have G : Goes x p n w o w1 s h qf (64 * (k : Int)) := by
      rcases G with e | e
      · exact a.quiet_goes e
      · exact a.seen_goes e
    obtain ⟨S', b1, b2⟩ := h1.goes (k' := k + 1000) (D' := D) hS G (by omega) (by omega) hD
    exact ⟨S', s, rfl, rfl, b1, b2⟩
theorem x_keys (h1 : Hsh W w x p n S s h D k) (hk : k ≤ 900000000) :
    Calls Tryz.prog 15 #[.pointer (some ⟨x, 0, none⟩)] w fun y w' => ∃ v S' s', y = .returned v ∧ OwnN w.heap.size w' v (h.keys 64) ∧ (∀ g, v.ownBlock = some g → ¬ S' g) ∧ s'.s = s.s ∧ Hsh W w' x p n S' s' h D (k + 1000) ∧ VKeep S S' w w' := by
  obtain ⟨mk, vs, qf, pf, af, o, a, hS, hD⟩ := h1.core
  have hc := h1.c
  refine (keys_all a).mono ?_
  rintro y w1 ⟨v, rfl, L⟩
  obtain ⟨mk1, o1, a1, e1, z1⟩ := L.hx
  obtain ⟨b1, b2⟩ := h1.goes_at (k' := k + 1000) (D' := D) hS a1 L.k e1 (by omega) (by omega) hD
  exact ⟨v, _, s, rfl, L.ow, fun g hg e => e.1 (z1 g hg), rfl, b1, b2⟩
theorem x_in (h1 : Hsh W w x p n S s h D k) (hk : k ≤ 900000000) (b : Int) (zs : List Int) (hz : h.inB n b = zs) :
    Calls Tryz.prog 20 #[.pointer (some ⟨x, 0, none⟩), .int .i64 b] w fun y w' => ∃ v S' s', y = .returned v ∧ OwnN w.heap.size w' v zs ∧ (∀ g, v.ownBlock = some g → ¬ S' g) ∧ s'.s = s.s ∧ Hsh W w' x p n S' s' h D (k + 1000) ∧ VKeep S S' w w' := by
  obtain ⟨mk, vs, qf, pf, af, o, a, hS, hD⟩ := h1.core
  have hc := h1.c
  by_cases hb : b < 0 ∨ (n : Int) ≤ b
  · obtain rfl : [] = zs := by rw [← hz]; exact (if_pos hb).symm
    refine (in_no a b hb).mono ?_
    rintro y w1 ⟨rfl, rfl⟩
    exact ⟨.slice none 0 0, S, s, rfl, World.ownsRow_nil _ _ _ _, fun g hg => (by cases hg), rfl, h1.up (by omega), Keep.refl _ _, fun j hj => .inl hj⟩
  · obtain ⟨b, rfl⟩ : ∃ i : Nat, b = i := ⟨b.toNat, by omega⟩
    obtain rfl : bin n b h.put = zs := by rw [← hz]; exact (if_neg hb).symm
    refine (in_yes a b (by omega)).mono ?_
    rintro y w1 ⟨v, B, o1, rfl, ow, _, a1, k1, e1, z1⟩
    obtain ⟨b1, b2⟩ := h1.goes_at (k' := k + 1000) (D' := D) hS a1 (k1.mono (fun j e => by rw [e, a.ox]; omega)) e1 (by omega) (by omega) hD
    exact ⟨v, _, s, rfl, ow, fun g hg e => e.1 (z1 g hg), rfl, b1, b2⟩
theorem x_push (h1 : Hsh W w x p n S s h D k) (hk : k ≤ 900000000) (key : Nat) (hd : D q key) (l : List Int) (hl : h.ch key = some l) (h64 : l.length ≤ 100) (y : Int) (hy : U64 y) (r : Bool) (l' : List Int) (hs : pushI s.s l y = (r, l')) (hf : r = true → ∀ k l, h.ch k = some l → y ∉ l) :
    Calls Tryz.prog 9 #[.pointer (some ⟨q, 0, none⟩), .int .u64 y] w fun e w' => e = .returned (.bool r) ∧ ∃ S' s', s'.s = s.s ∧ Hsh W w' x p n S' s' (h.set key l') D (k + 1000) ∧ VKeep S S' w w' := by
  obtain ⟨mk, vs, qf, pf, af, o, a, hS, hD⟩ := h1.core
  have hc := h1.c
  obtain rfl := (hD q key hd).2
  obtain ⟨SV, g, hsv⟩ := a.cg hl
  have ln := h1.hk.ln key l hl
  have hD2 : ∀ l', ∀ q k', D q k' → ((h.set key l').ch k').isSome = true ∧ q = qf k' := fun l' q k' e => by
    refine ⟨?_, (hD q k' e).2⟩
    by_cases z : k' = key
    · subst z; rw [HS.set_at]; rfl
    · rw [HS.set_ne z]; exact (hD q k' e).1
  by_cases hm : y ∈ l
  · obtain ⟨rfl, rfl⟩ : r = false ∧ l' = l := by
      unfold pushI at hs; rw [if_neg (fun z => z.2 hm)] at hs; cases hs; exact ⟨rfl, rfl⟩
    refine (cpush_in g (by omega) (by omega) ln (by omega) rfl y hm).mono ?_
    rintro e w1 ⟨rfl, S1, g1, t1⟩
    obtain ⟨S', b1, b2⟩ := h1.goes (k' := k + 1000) (D' := D) hS (a.chain_goes hl hsv g1 t1 rfl (by omega) (by rw [HS.set_same hl]; exact h1.hk.more _)) (by omega) (by rw [more_c]; omega) (hD2 _)
    refine ⟨rfl, S', _, ?_, b1, b2⟩
    rfl
  · cases hv : s.s.live y with
    | false =>
      obtain ⟨rfl, rfl⟩ : r = false ∧ l' = l := by
        unfold pushI at hs; rw [if_neg (by simp [hv])] at hs; cases hs; exact ⟨rfl, rfl⟩
      refine (cpush_dead g (by omega) (by omega) ln (by omega) rfl y hy hv).mono ?_
      rintro e w1 ⟨rfl, S1, g1, t1⟩
      obtain ⟨S', b1, b2⟩ := h1.goes (k' := k + 1000) (D' := D) hS (a.chain_goes hl hsv g1 t1 rfl (by omega) (by rw [HS.set_same hl]; exact h1.hk.more _)) (by omega) (by rw [more_c]; omega) (hD2 _)
      refine ⟨rfl, S', _, ?_, b1, b2⟩
      rfl
    | true =>
      obtain ⟨rfl, rfl⟩ : r = true ∧ l' = y :: l := by
        unfold pushI at hs; rw [if_pos ⟨hv, hm⟩] at hs; cases hs; exact ⟨rfl, rfl⟩
      have hf := hf rfl
      refine (cpush_ok g (by omega) (by omega) ln (by omega) rfl y hv hm).mono ?_
      rintro e w1 ⟨rfl, S1, g1, t1⟩
      have hk' : HOk ((s.more (l.length + 1)).put (slotOf y) { s.ver (slotOf y) with n := l.headD 0 }) (h.set key (y :: l)) :=
        h1.hk.set hl ((ln.more _).push (h1.ok.more _) hv hm) (fun k2 l2 _ e2 => ((h1.hk.ln k2 l2 e2).more _).put_other (h1.ok.more _) hv (hf k2 l2 e2) _) (fun k2 l2 hne e2 x hx => by
          rcases List.mem_cons.1 hx with z | z
          · rw [z]; exact hf k2 l2 e2
          · exact h1.hk.dj key k2 l l2 (Ne.symm hne) hl e2 x z)
      obtain ⟨S', b1, b2⟩ := h1.goes (k' := k + 1000) (D' := D) hS (a.chain_goes (l' := y :: l) hl hsv g1 t1 rfl (by omega) hk') (by omega) (by show s.c + 64 * ((l.length + 1 : Nat) : Int) + 64 ≤ _; omega) (hD2 _)
      refine ⟨rfl, S', _, ?_, b1, b2⟩
      rfl
theorem x_cut (h1 : Hsh W w x p n S s h D k) (hk : k ≤ 900000000) (key : Nat) (hd : D q key) (l : List Int) (hl : h.ch key = some l) (h64 : l.length ≤ 100) (y : Int) (hy : U64 y) (r : Bool) (l' : List Int) (hs : cutI l y = (r, l')) :
    Calls Tryz.prog 11 #[.pointer (some ⟨q, 0, none⟩), .int .u64 y] w fun e w' => e = .returned (.bool r) ∧ ∃ S' s', s'.s = s.s ∧ Hsh W w' x p n S' s' (h.set key l') D (k + 1000) ∧ VKeep S S' w w' := by
  obtain ⟨mk, vs, qf, pf, af, o, a, hS, hD⟩ := h1.core
  have hc := h1.c
  obtain rfl := (hD q key hd).2
  obtain ⟨SV, g, hsv⟩ := a.cg hl
  have ln := h1.hk.ln key l hl
  have hD2 : ∀ l', ∀ q k', D q k' → ((h.set key l').ch k').isSome = true ∧ q = qf k' := fun l' q k' e => by
    refine ⟨?_, (hD q k' e).2⟩
    by_cases z : k' = key
    · subst z; rw [HS.set_at]; rfl
    · rw [HS.set_ne z]; exact (hD q k' e).1
  rcases first_or y l with hm | ⟨i, hi⟩
  · obtain ⟨rfl, rfl⟩ : r = false ∧ l' = l := by
      unfold cutI at hs; rw [if_neg hm] at hs; cases hs; exact ⟨rfl, rfl⟩
    refine (ccut_no g (by omega) (by omega) ln (by omega) rfl y hm).mono ?_
    rintro e w1 ⟨rfl, S1, g1, t1⟩
    obtain ⟨S', b1, b2⟩ := h1.goes (k' := k + 1000) (D' := D) hS (a.chain_goes hl hsv g1 t1 rfl (by omega) (by rw [HS.set_same hl]; exact h1.hk.more _)) (by omega) (by rw [more_c]; omega) (hD2 _)
    refine ⟨rfl, S', _, ?_, b1, b2⟩
    rfl
  · obtain ⟨rfl, rfl⟩ : r = true ∧ l' = l.eraseIdx i := by
      unfold cutI at hs; rw [if_pos hi.mem] at hs; cases hs
      exact ⟨rfl, by rw [← erase_idx ln.nd hi.lt, hi.eq]⟩
    have dj : ∀ k2 l2, k2 ≠ key → h.ch k2 = some l2 → ∀ x ∈ l.eraseIdx i, x ∉ l2 := fun k2 l2 hne e2 x hx => h1.hk.dj key k2 l l2 (Ne.symm hne) hl e2 x (List.mem_of_mem_eraseIdx hx)
    cases i with
    | zero =>
      obtain ⟨t, rfl⟩ : ∃ t, l = y :: t := by
        cases l with
        | nil => have := hi.lt; simp at this
        | cons b t => exact ⟨t, by have := hi.eq; simp at this; rw [this]⟩
      have h64 : t.length + 1 ≤ 100 := h64
      refine (ccut_first g (by omega) (by omega) y ln (by omega) rfl).mono ?_
      rintro e w1 ⟨rfl, S1, g1, t1⟩
      have hk' : HOk (s.more (2 * t.length + 4)) (h.set key t) :=
        h1.hk.set hl (ln.cut_first.more _) (fun k2 l2 _ e2 => (h1.hk.ln k2 l2 e2).more _) dj
      obtain ⟨S', b1, b2⟩ := h1.goes (k' := k + 1000) (D' := D) hS (a.chain_goes (l' := t) hl hsv g1 t1 rfl (by omega) hk') (by omega) (by rw [more_c]; omega) (hD2 _)
      refine ⟨rfl, S', _, ?_, b1, b2⟩
      rfl
    | succ j =>
      have hj := hi.lt
      refine (ccut_mid g (by omega) (by omega) ln (by omega) rfl y j hj hi.eq _ rfl _ _ rfl rfl).mono ?_
      rintro e w1 ⟨rfl, S1, g1, t1⟩
      have bm : l.getD j 0 ∈ l := getD_mem (by omega)
      have lv : s.s.live (l.getD j 0) = true := ln.live _ bm
      have ln2 := ((ln.more (l.length + 2)).cut (h1.ok.more _) j hj).more l.length
      have hk' := h1.hk.set (key := key) hl ln2 (fun k2 l2 hne e2 => (((h1.hk.ln k2 l2 e2).more (l.length + 2)).put_other (h1.ok.more _) lv (h1.hk.dj key k2 l l2 (Ne.symm hne) hl e2 _ bm) _).more l.length) dj
      obtain ⟨S', b1, b2⟩ := h1.goes (k' := k + 1000) (D' := D) hS (a.chain_goes (l' := l.eraseIdx (j + 1)) hl hsv g1 t1 (by cases l <;> rfl) (by omega) hk') (by omega) (by show s.c + 64 * ((l.length + 2 : Nat) : Int) + 64 + 64 * (l.length : Int) ≤ _; omega) (hD2 _)
      refine ⟨rfl, S', _, ?_, b1, b2⟩
      rfl
theorem x_head (h1 : Hsh W w x p n S s h D k) (hk : k ≤ 900000000) (key : Nat) (hd : D q key) (l : List Int) (hl : h.ch key = some l) (y : Int) (hs : l.headD 0 = y) :
    Calls Tryz.prog 12 #[.pointer (some ⟨q, 0, none⟩)] w fun e w' => e = .returned (.int .u64 y) ∧ ∃ S' s', s'.s = s.s ∧ Hsh W w' x p n S' s' h D (k + 1000) ∧ VKeep S S' w w' := by
  obtain ⟨mk, vs, qf, pf, af, o, a, hS, hD⟩ := h1.core
  have hc := h1.c
  obtain rfl := (hD q key hd).2
  obtain ⟨SV, g, hsv⟩ := a.cg hl
  refine (chead g (by omega) y (by exact hs)).mono ?_
  rintro e w1 ⟨rfl, g1, k1⟩
  have G := a.chain_goes hl hsv g1 (Turn.arena k1) rfl (by omega) (by rw [HS.set_same hl]; exact h1.hk)
  rw [HS.set_same hl] at G
  obtain ⟨S', b1, b2⟩ := h1.goes (k' := k + 1000) (D' := D) hS G (by omega) (by omega) hD
  exact ⟨rfl, S', s, rfl, b1, b2⟩
theorem x_len (h1 : Hsh W w x p n S s h D k) (hk : k ≤ 900000000) (key : Nat) (hd : D q key) (l : List Int) (hl : h.ch key = some l) (h64 : l.length ≤ 100) (y : Int) (hs : (l.length : Int) = y) :
    Calls Tryz.prog 14 #[.pointer (some ⟨q, 0, none⟩)] w fun e w' => e = .returned (.int .i64 y) ∧ ∃ S' s', s'.s = s.s ∧ Hsh W w' x p n S' s' h D (k + 1000) ∧ VKeep S S' w w' := by
  obtain ⟨mk, vs, qf, pf, af, o, a, hS, hD⟩ := h1.core
  have hc := h1.c
  obtain rfl := (hD q key hd).2
  subst hs
  refine (a.len hl h64 (by omega) (by omega)).mono ?_
  rintro e w1 ⟨rfl, a1, k1⟩
  obtain ⟨S', b1, b2⟩ := h1.goes (k' := k + 1000) (D' := D) hS ⟨_, _, _, _, _, a1, k1, fun g hg => relab_lt hg⟩ (by omega) (by rw [more_c]; omega) hD
  refine ⟨rfl, S', _, ?_, b1, b2⟩
  rfl
end
theorem awake10_any (w : World) : Calls Tryz.prog 16 #[] w fun e w' => e = .returned (.bool true) ∧ Below w.heap.size w w' := by
  go_enter Tryz.func16, Tryz.ntmps16
  go_wp2_with fail
  refine (v_new 4 w (by omega) (by omega)).mono ?_
  rintro e w1 ⟨p, S1, rfl, C1⟩
  go_wp2_with fail
  refine (x_new C1 4 (by omega) (by omega)).mono ?_
  rintro e w2 ⟨x, S2, s2, rfl, e2, C2, _⟩
  clear C1
  go_wp2_with fail
  refine (x_put_new C2 (by omega) 5 (by omega) rfl).mono ?_
  rintro e w3 ⟨c, S3, s3, rfl, e3, C3, _⟩
  clear C2
  go_wp2_with fail
  refine (x_find_yes C3 (by omega) 5 [] HS.add_at).mono ?_
  rintro e w4 ⟨d, S4, s4, rfl, e4, C4, _⟩
  clear C3
  go_wp2_with fail
  refine (x_find_no C4 (by omega) 6 (.inr (.inr (by rw [show (6 : Int).toNat = 6 from rfl, HS.add_ne (by omega)]; rfl)))).mono ?_
  rintro e w5 ⟨S5, s5, rfl, e5, C5, _⟩
  clear C4
  go_wp2_with fail
  refine (x_keys C5 (by omega)).mono ?_
  rintro e w6 ⟨v, S6, s6, rfl, o6, _, e6, C6, _⟩
  clear C5
  have hl : ((HS.new.add 5).keys 64).length = 1 := by decide
  obtain ⟨A, c2, rfl, _, _⟩ := o6.shapeN
  rw [hl]
  have b := C6.b
  clear C6 o6 e2 e3 e4 e5 e6
  go_wp2
  go_ret
  exact ⟨rfl, b⟩
end Go.Proofs.YtmfpjnlplimkeaaGreat
/- For layer 10's laws: the keys of a set in a row; a block of 64 bools of the law's own; an Index beside it. No condition but those of the Index. -/
namespace Go.Proofs.YtmfpjnlplimkeaaGreat
open Go.ChangeShapes Go.WideShapes Go.ChangeAt Go.RowKit
set_option linter.unusedVariables false

/-- The keys below m whose bit is set, rising. -/
def bset (bit : Nat → Bool) : Nat → List Nat
  | 0 => []
  | m + 1 => if bit m = true then bset bit m ++ [m] else bset bit m
theorem bset_mem {bit : Nat → Bool} : ∀ m k, k ∈ bset bit m ↔ k < m ∧ bit k = true
  | 0, k => by simp [bset]
  | m + 1, k => by
    unfold bset
    split
    · rename_i hb
      rw [List.mem_append, bset_mem m k, List.mem_singleton]
      constructor
      · rintro (⟨h1, h2⟩ | rfl)
        · exact ⟨by omega, h2⟩
        · exact ⟨by omega, hb⟩
      · rintro ⟨h1, h2⟩
        by_cases e : k = m
        · exact .inr e
        · exact .inl ⟨by omega, h2⟩
    · rename_i hb
      rw [bset_mem m k]
      constructor
      · rintro ⟨h1, h2⟩; exact ⟨by omega, h2⟩
      · rintro ⟨h1, h2⟩
        by_cases e : k = m
        · subst e; exact absurd h2 hb
        · exact ⟨by omega, h2⟩
section
variable {W w w' : World} {x p n Bk : Nat} {S S' : Nat → Prop} {s s' : RS} {h h' : HS} {D D' : Nat → Nat → Prop} {k k' : Nat} {f f' : Nat → Bool}
/-- An Index, and a block of bools of the law's own. -/
structure HsB (W w : World) (x p n : Nat) (S : Nat → Prop) (s : RS) (h : HS) (D : Nat → Nat → Prop) (k : Nat) (Bk : Nat) (f : Nat → Bool) : Prop where
  r : Hsh W w x p n S s h D k
  bt : Bits64 w Bk f
  nS : ¬ S Bk
  ge : W.heap.size ≤ Bk
theorem HsB.step (b : HsB W w x p n S s h D k Bk f) (hr : Hsh W w' x p n S' s' h' D' k') (kk : VKeep S S' w w') : HsB W w' x p n S' s' h' D' k' Bk f :=
  ⟨hr, b.bt.keep kk.1 b.nS, fun y => by rcases kk.2 _ y with z | z; exact b.nS z; have := b.bt.lt; omega, b.ge⟩
theorem HsB.quiet (b : HsB W w x p n S s h D k Bk f) (kk : Keep (fun _ => False) w w') : HsB W w' x p n S s h D k Bk f := ⟨b.r.quiet kk, b.bt.keep kk (by simp), b.nS, b.ge⟩
theorem HsB.set (b : HsB W w x p n S s h D k Bk f) (i : Nat) (hi : i < 64) (y : Bool) (e : ∀ j, (if j = i then y else f j) = f' j) : HsB W (w.setCell ⟨Bk, i, none⟩ (.bool y)) x p n S s h D k Bk f' := by
  have := b.bt.set i hi y
  rw [show (fun j => if j = i then y else f j) = f' from funext e] at this
  exact ⟨b.r.own (keep_one w ⟨Bk, i, none⟩ (.bool y)) (fun g hg => by have hg : g = Bk := hg; subst hg; exact ⟨b.nS, b.ge⟩), this, b.nS, b.ge⟩
theorem HsB.up (b : HsB W w x p n S s h D k Bk f) {m : Nat} (hk : k ≤ m) : HsB W w x p n S s h D m Bk f := ⟨b.r.up hk, b.bt, b.nS, b.ge⟩
end
end Go.Proofs.YtmfpjnlplimkeaaGreat
