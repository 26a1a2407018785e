/- Package hash, seventh part: In and Keys of an Index in memory (slices.Sort by the kit's contract: text Sort). -/
import Derived.Test.YtmfpjnlplimkeaaHsF
import Derived.Test.YtmfpjnlplimkeaaPushN
import Derived.Test.YtmfpjnlplimkeaaSort
import Derived.Sort.OwnSortedInts
import Derived.Laws.AppendOwnNone
namespace Go.Proofs.Ytmfpjnlplimkeaa
open Go.ChangeShapes Go.WideShapes Go.ChangeAt Go.RowKit
set_option linter.unusedVariables false

/-- 'l = append(l, y...)' of ints, y nil or a slice of one's own that holds something. -/
theorem wp_appN {w : World} {ops : Array Oper} {rest : List Oper} {o : Oper} {a : Act} {Q : Exit → Act → World → Prop} (hgd : o.guard = none) (s x : Operand)
    (ho : o.op = .call { callee := .builtin .append, args := #[s, x], argTypes := #[34, 34] })
    (B B2 : Nat) (hB : B ≤ w.heap.size) (v u : Value) (zs ys : List Int) (hs : a.eval s = v) (hx : a.eval x = u) (hown : OwnN B w v zs) (hu : OwnN B2 w u ys) (hne : ys = [] → u = .slice none 0 0) (hl : zs.length ≤ 100000) (hl2 : ys.length ≤ 100000)
    (h : ∀ v' w', OwnN B w' v' (zs ++ ys) → Keep (fun j => v.ownBlock = some j) w w' → (∀ g, v'.ownBlock = some g → v.ownBlock = some g ∨ w.heap.size ≤ g) → wpList Try.prog ops Q rest (a.put o.dst v') w') :
    wpList Try.prog ops Q (o :: rest) a w := by
  obtain ⟨i0, hi0, hz0, hz1, hz2⟩ := info_parts info_pushN
  by_cases h0 : ys = []
  · have e := hne h0
    subst h0; subst e
    refine wpList_append_own_none hgd s x 34 ho B 3 i0 1 Try.underlying34 hi0 v zs.length (zs.map (Value.int .i64)) hs hown hx ?_
    exact h v w (by simpa using hown) (Keep.refl _ w) (fun g hg => .inl hg)
  · obtain ⟨A, c, rfl, hA0, hA1⟩ := hu.shapeN
    cases A with
    | none => exact absurd (hA0 rfl) h0
    | some ad =>
      obtain ⟨g2, rfl⟩ := hA1 _ rfl
      have lp := List.length_pos_iff.2 h0
      refine wpList_append_lies _ hgd s x 34 ho B 3 i0 (.int .i64 0) 1 8 Try.underlying34 hi0 hz0 hz1 hz2 rfl (by decide) v zs.length (zs.map (Value.int .i64)) hs hown ⟨g2, 0, none⟩ ys.length c (ys.map (Value.int .i64)) hx (by simp) (fun j u hj => ?_) (fun u hu => ?_) lp (by unfold maxLen; omega) (by omega) hB w.heap.size rfl ?_
      · rw [List.getElem?_map, Option.map_eq_some_iff] at hj
        obtain ⟨z, hz, rfl⟩ := hj
        have hj : j < ys.length := (List.getElem?_eq_some_iff.1 hz).1
        rw [add_plain, Nat.zero_add, hu.cell j hj, List.getD_eq_getElem?_getD, hz]
        rfl
      · obtain ⟨x, _, rfl⟩ := List.mem_map.1 hu
        rfl
      · intro g c' w' o1 gr hg _
        refine h _ w' ?_ ⟨gr.os, gr.tape, gr.output, gr.size, fun j hj hn => gr.block j hj (fun e => hn e.symm)⟩ (fun g' e => ?_)
        · unfold OwnN
          rw [List.length_append, List.map_append]
          exact o1
        · cases e
          exact hg.imp_right (fun e => Nat.le_of_eq e.symm)
/-- The keys of entries. -/
def keysE (es : List (Nat × Nat)) : List Int := es.map (fun e => (e.1 : Int))
theorem keysE_esF (n : Nat) (l : List Nat) (qf : Nat → Nat) (b : Nat) : keysE (esF n l qf b) = bin n b l := by
  rw [bin_binN]
  simp [keysE, esF]
theorem keysE_step {es : List (Nat × Nat)} {k : Nat} (hk : k < es.length) : (keysE es).take (k + 1) = (keysE es).take k ++ [((es.getD k (0, 0)).1 : Int)] := by
  have hl : k < (keysE es).length := by simpa [keysE] using hk
  rw [List.take_add_one, List.getElem?_eq_getElem hl]
  simp [keysE, List.getD_eq_getElem?_getD, hk]
section
variable {w w' : World} {x p n : Nat} {s s' : RS} {h h' : HS} {mk : Option Nat} {vs : Nat → Value} {qf pf af o : Nat → Nat} {C C' : Int} {T : Nat → Prop}
theorem in_no (a : Hx w x p n s h mk vs qf pf af o C) (b : Int) (hb : b < 0 ∨ n ≤ b) :
    Calls Try.prog 7 #[.pointer (some ⟨x, 0, none⟩), .int .i64 b] w fun e w' => e = .returned (.slice none 0 0) ∧ w = w' := by
  have c1 := a.ix.c1
  by_cases h0 : b < 0
  · clear hb
    go_enter Try.func7, Try.ntmps7
    go_wp2
    go_ret
    exact ⟨rfl, rfl⟩
  · have h1 : (n : Int) ≤ b := by omega
    clear hb
    go_enter Try.func7, Try.ntmps7
    go_wp2
    go_ret
    exact ⟨rfl, rfl⟩
/-- What In leaves: a list of its own. -/
def InP (x p n : Nat) (s : RS) (h : HS) (vs : Nat → Value) (qf pf af o : Nat → Nat) (C : Int) (w : World) (zs : List Int) (e : Ending) (w' : World) : Prop :=
  ∃ v B o', e = .returned v ∧ OwnN w.heap.size w' v zs ∧ (zs = [] → v = .slice none 0 0) ∧ Hx w' x p n s h (some B) vs qf pf af o' C ∧ Keep (fun j => j = x) w w' ∧ (∀ g, g < w.heap.size → o' g = o g) ∧ ∀ g, v.ownBlock = some g → o' g = 0
set_option maxRecDepth 100000 in
set_option maxHeartbeats 1000000 in
theorem in_yes (a : Hx w x p n s h mk vs qf pf af o C) (b : Nat) (bn : b < n) :
    Calls Try.prog 7 #[.pointer (some ⟨x, 0, none⟩), .int .i64 b] w (InP x p n s h vs qf pf af o C w (bin n b h.put)) := by
  have c1 := a.ix.c1
  have hls := lists_any a.n1 a.ix a.bk.has
  have b0 : (b : Int) < (n : Int) := by omega
  have b1 : ¬ (n : Int) ≤ (b : Int) := by omega
  rw [← keysE_esF n h.put qf b]
  go_enter Try.func7, Try.ntmps7
  go_wp2_with fail
  refine hls.mono ?_
  rintro e w1 ⟨B, rfl, L⟩
  have cb := L.2.1.cell b bn
  have rw1 := L.2.1.row b bn
  have ls := esF_len n h.put qf b
  have sh := a.hk.short
  obtain ⟨es, ees⟩ : ∃ es, esF n h.put qf b = es := ⟨_, rfl⟩
  rw [ees] at rw1 ls
  obtain ⟨A, c, ev, hA0, hA1⟩ : ∃ A c, vs b = .slice A es.length c ∧ (A = none → es = []) ∧ ∀ ad, A = some ad → ∃ g, ad = ⟨g, 0, none⟩ := by
    rcases rw1.form with ⟨h1, h2⟩ | ⟨g, c, h1, _⟩
    · exact ⟨none, 0, by rw [h1, h2]; rfl, fun _ => h2, fun ad h => by cases h⟩
    · exact ⟨_, c, h1, fun h => (by cases h), fun ad h => by cases h; exact ⟨g, rfl⟩⟩
  rw [ev] at cb rw1
  have FIN : ∀ v wr, OwnN w1.heap.size wr v (keysE es) → ((keysE es) = [] → v = .slice none 0 0) → Below w1.heap.size w1 wr → InP x p n s h vs qf pf af o C w (keysE es) (.returned v) wr := fun v wr o2 hne bl => by
    have k2 := Keep.of_below bl (fun _ => False)
    have s1 := L.2.2.1.size
    refine ⟨v, B, _, rfl, ?_, hne, (a.looked L).quiet k2 (by simp) 0, L.2.2.1.trans (k2.mono (by simp)), fun g hg => ?_, fun g hg => relab_ge (OwnN.lt o2 hg).1⟩
    · obtain ⟨h1, h2⟩ := o2
      refine ⟨h1, h2.imp_right ?_⟩
      rintro ⟨g, c, cur, hv, hg, r⟩
      exact ⟨g, c, cur, hv, Nat.le_trans s1 hg, r⟩
    · rw [relab_lt (by omega), relab_lt hg]
  have FIN := Lib.hid FIN
  have EES := Lib.hid ees
  clear hls L ev ees
  go_wp2
  go_loopw [5, 7, 24] (fun v _ q wr => ∃ k : Nat, k ≤ es.length ∧ q = .int .i64 k ∧ OwnN w1.heap.size wr v ((keysE es).take k) ∧ (v = .slice none 0 0 ∨ 0 < k) ∧ Below w1.heap.size w1 wr) (fun _ _ q _ => es.length - (intOf q).toNat)
  case atStart => exact ⟨0, Nat.zero_le _, rfl, by rw [List.take_zero]; exact World.ownsRow_nil _ _ _ _, .inl rfl, Below.refl _ w1⟩
  case round =>
    obtain ⟨k, hk, rfl, o2, hv, bl⟩ := hrel
    by_cases hlt : k < es.length
    · cases A with
      | none => rw [hA0 rfl] at hlt; exact absurd hlt (Nat.not_lt_zero k)
      | some ad =>
        obtain ⟨g, rfl⟩ := hA1 _ rfl
        obtain ⟨d0, d1⟩ := OwnE.two (OwnE.below rw1 bl) k hlt
        have st := keysE_step hlt
        obtain ⟨y, ey⟩ : ∃ y, es.getD k (0, 0) = y := ⟨_, rfl⟩
        rw [ey] at d0 d1 st
        have wk : IntKind.i64.wrap ((k : Int) + 1) = (k : Int) + 1 := IntWalk.i64_in _ (by omega)
        have sz := bl.size
        have lt : ((keysE es).take k).length ≤ 100000 := by rw [List.length_take]; omega
        clear hA0 hA1 ey
        go_wp2_with (with_reducible refine wp_stop 32 rfl ?_)
        intro _
        have kA := Keep.alloc (Keep.refl (fun _ => False) wr) (.cells #[.int .i64 (y.1 : Int), .pointer (some ⟨y.2, 0, none⟩)] 65)
        have oA := OwnN.keep o2 kA (by simp)
        have bA := Below.alloc bl sz (.cells #[.int .i64 (y.1 : Int), .pointer (some ⟨y.2, 0, none⟩)] 65)
        have sA : w1.heap.size ≤ (wr.alloc (.cells #[.int .i64 (y.1 : Int), .pointer (some ⟨y.2, 0, none⟩)] 65)).heap.size := bA.size
        refine wp_pushN rfl (.tmp 28) (.tmp 31) rfl w1.heap.size sA u5 ((keysE es).take k) rfl oA (y.1 : Int) (by simp [Act.eval]) lt ?_
        intro g3 c3 w3 o3 k3 hg3
        have b3 := bA.trans (k3.below sA (fun j hj => (OwnN.lt o2 hj).1))
        have o4 : OwnN w1.heap.size w3 (.slice (some ⟨g3, 0, none⟩) (((keysE es).take k).length + 1) c3) ((keysE es).take (k + 1)) := by rw [st]; exact o3
        rw [List.length_take] at o4
        clear kA oA bA sA o3 k3 hg3 o2 bl d0 d1 st hv
        go_wp2
        go_roundw
        case rel => exact ⟨k + 1, by omega, by go_num, o4, .inr (by omega), b3⟩
        case measure => simp [intOf]; omega
    · obtain rfl : k = es.length := by omega
      have le : (keysE es).length = es.length := by simp [keysE]
      rw [List.take_of_length_le (by omega)] at o2
      have hne : (keysE es) = [] → u5 = .slice none 0 0 := fun e => by
        rcases hv with z | z
        · exact z
        · rw [e] at le; simp at le; omega
      have P := Lib.hid (FIN.out _ _ o2 hne bl)
      clear o2 hne bl hv rw1 cb c1
      go_wp2
      go_ret
      have P := P.out
      rw [← EES.out] at P
      exact P
theorem keys_nil (n : Nat) : (List.range 0).flatMap (fun b : Nat => bin n b ([] : List Nat)) = [] := rfl
/-- The keys of the buckets below k, one bucket behind the other. -/
def keysTo (n k : Nat) (l : List Nat) : List Int := (List.range k).flatMap (fun b : Nat => bin n b l)
theorem keysTo_step (n k : Nat) (l : List Nat) : keysTo n (k + 1) l = keysTo n k l ++ bin n k l := by
  simp [keysTo, List.range_succ]
theorem keysTo_len (n : Nat) (l : List Nat) : ∀ k, (keysTo n k l).length ≤ k * l.length
  | 0 => by simp [keysTo]
  | k + 1 => by
    have := keysTo_len n l k
    have h2 : (bin n k l).length ≤ l.length := bin_len
    rw [keysTo_step, List.length_append, Nat.succ_mul]
    omega
theorem keysTo_mem {n k : Nat} {l : List Nat} {z : Int} : z ∈ keysTo n k l ↔ ∃ b : Nat, b < k ∧ ∃ j : Nat, j ∈ l ∧ bktI (j : Int) n = b ∧ z = (j : Int) := by
  simp only [keysTo, List.mem_flatMap, List.mem_range, bin_mem]
theorem keysTo_nodup {n : Nat} {l : List Nat} (hl : l.Nodup) : ∀ k, (keysTo n k l).Nodup
  | 0 => by simp [keysTo]
  | k + 1 => by
    rw [keysTo_step, List.nodup_append]
    refine ⟨keysTo_nodup hl k, bin_nodup hl, fun a ha b hb e => ?_⟩
    subst e
    obtain ⟨c, hc, j, _, h1, h2⟩ := keysTo_mem.1 ha
    obtain ⟨i, _, h3, h4⟩ := bin_mem.1 hb
    have : i = j := by omega
    subst this
    omega
theorem hs_keys_mem {h : HS} : ∀ m (z : Int), z ∈ h.keys m ↔ ∃ j : Nat, j < m ∧ (h.ch j).isSome = true ∧ z = (j : Int)
  | 0, z => by simp [HS.keys]
  | m + 1, z => by
    have ih := hs_keys_mem (h := h) m z
    unfold HS.keys
    split
    · rename_i hm
      rw [List.mem_append, ih, List.mem_singleton]
      constructor
      · rintro (⟨j, h1, h2, h3⟩ | rfl)
        · exact ⟨j, by omega, h2, h3⟩
        · exact ⟨m, by omega, hm, rfl⟩
      · rintro ⟨j, h1, h2, h3⟩
        by_cases e : j = m
        · subst e; exact .inr h3
        · exact .inl ⟨j, by omega, h2, h3⟩
    · rename_i hm
      rw [ih]
      constructor
      · rintro ⟨j, h1, h2, h3⟩; exact ⟨j, by omega, h2, h3⟩
      · rintro ⟨j, h1, h2, h3⟩
        by_cases e : j = m
        · subst e; exact absurd h2 hm
        · exact ⟨j, by omega, h2, h3⟩
theorem hs_keys_rise {h : HS} : ∀ m, (h.keys m).Pairwise (fun a b => a < b)
  | 0 => by simp [HS.keys]
  | m + 1 => by
    unfold HS.keys
    split
    · rw [List.pairwise_append]
      refine ⟨hs_keys_rise m, by simp, fun a ha b hb => ?_⟩
      obtain ⟨j, hj, _, rfl⟩ := (hs_keys_mem m a).1 ha
      rw [List.mem_singleton] at hb
      omega
    · exact hs_keys_rise m
theorem sort_keys {h : HS} {s : RS} {n : Nat} (hk : HOk s h) (n0 : 1 ≤ n) (n1 : n ≤ 64) : (keysTo n n h.put).mergeSort (fun x y => decide (x ≤ y)) = h.keys 64 := by
  have p1 := List.mergeSort_perm (keysTo n n h.put) (fun x y => decide (x ≤ y))
  have nd1 : ((keysTo n n h.put).mergeSort (fun x y => decide (x ≤ y))).Nodup := p1.nodup_iff.2 (keysTo_nodup hk.nd n)
  have nd2 : (h.keys 64).Nodup := (hs_keys_rise 64).imp (fun h => by omega)
  have hp : ((keysTo n n h.put).mergeSort (fun x y => decide (x ≤ y))).Perm (h.keys 64) := by
    refine (List.perm_ext_iff_of_nodup nd1 nd2).2 fun z => ?_
    rw [p1.mem_iff, keysTo_mem, hs_keys_mem]
    constructor
    · rintro ⟨b, _, j, hj, _, hz⟩
      exact ⟨j, hk.lt j hj, (hk.pt j).1 hj, hz⟩
    · rintro ⟨j, hj, hs, hz⟩
      have := bktI_b j n (by omega) (by omega) (by omega) (by omega)
      exact ⟨(bktI j n).toNat, by omega, j, (hk.pt j).2 hs, by omega, hz⟩
  refine List.Perm.eq_of_pairwise (le := fun a b => a ≤ b) (fun a b _ _ h1 h2 => by omega) ?_ ((hs_keys_rise 64).imp (fun h => by omega)) hp
  have := List.pairwise_mergeSort (le := fun x y : Int => decide (x ≤ y)) (fun a b c h1 h2 => by simp at h1 h2 ⊢; omega) (fun a b => by simp; omega) (keysTo n n h.put)
  exact this.imp (fun h => by simpa using h)
/-- In the midst of Keys, and behind it. -/
structure Lists (x p n : Nat) (s : RS) (h : HS) (vs : Nat → Value) (qf pf af o : Nat → Nat) (C : Int) (w : World) (zs : List Int) (v : Value) (wr : World) : Prop where
  hx : ∃ mk o', Hx wr x p n s h mk vs qf pf af o' C ∧ (∀ g, g < w.heap.size → o' g = o g) ∧ ∀ g, v.ownBlock = some g → o' g = 0
  k : Keep (fun g => o g ≠ 0) w wr
  ow : OwnN w.heap.size wr v zs
set_option maxRecDepth 100000 in
set_option maxHeartbeats 1000000 in
theorem keys_all (a : Hx w x p n s h mk vs qf pf af o C) :
    Calls Try.prog 17 #[.pointer (some ⟨x, 0, none⟩)] w fun e w' => ∃ v, e = .returned v ∧ Lists x p n s h vs qf pf af o C w (h.keys 64) v w' := by
  have c1 := a.ix.c1
  have n1 := a.n1
  have n0 := a.n0
  have sk := sort_keys a.hk n0 n1
  have sh := a.hk.short
  go_enter Try.func17, Try.ntmps17
  go_wp2
  go_loopw [3, 4, 9] (fun v _ q wr => ∃ k : Nat, k ≤ n ∧ q = .int .i64 k ∧ Lists x p n s h vs qf pf af o C w (keysTo n k h.put) v wr) (fun _ _ q _ => n - (intOf q).toNat)
  case atStart => exact ⟨0, Nat.zero_le _, rfl, ⟨mk, o, a, fun g _ => rfl, fun g hg => by cases hg⟩, Keep.refl _ w, World.ownsRow_nil _ _ _ _⟩
  case round =>
    obtain ⟨k, hk, rfl, D⟩ := hrel
    by_cases hlt : k < n
    · obtain ⟨mk1, o1, a1, e1, z1⟩ := D.hx
      have hin := in_yes a1 k hlt
      have kl := keysTo_len n h.put k
      have bl : (bin n k h.put).length ≤ h.put.length := bin_len
      have ll : (keysTo n k h.put).length ≤ 100000 := Nat.le_trans kl (Nat.le_trans (Nat.mul_le_mul hk sh) (by omega))
      have wk : IntKind.i64.wrap ((k : Int) + 1) = (k : Int) + 1 := IntWalk.i64_in _ (by omega)
      go_wp2_with fail
      refine hin.mono ?_
      rintro e w2 ⟨u, B, o2, rfl, ou, hne, a2, k2, e2, z2⟩
      clear hin
      have s1 := D.k.size
      have s2 := k2.size
      have nx : ∀ g, u3.ownBlock = some g → ¬ g = x := fun g hg e => by have t1 := z1 g hg; rw [e] at t1; have t2 := a1.ox; omega
      have ov2 := OwnN.keep D.ow k2 nx
      have lv : ∀ g, u3.ownBlock = some g → g < wr.heap.size := fun g hg => (OwnN.lt D.ow hg).2
      go_wp2_with (with_reducible refine wp_stop 16 rfl ?_)
      intro _
      refine wp_appN rfl (.tmp 12) (.tmp 15) rfl w.heap.size wr.heap.size (by omega) u3 u (keysTo n k h.put) (bin n k h.put) rfl rfl ov2 ou hne ll (by omega) ?_
      intro v3 w3 o3 k3 hg3
      have D3 : Lists x p n s h vs qf pf af o C w (keysTo n (k + 1) h.put) v3 w3 := by
        refine ⟨⟨_, _, a2.quiet k3 (fun g hg e => (e2 g (lv g e)).trans (z1 g e)) 0, fun g hg => ?_, fun g hg => ?_⟩, ?_, ?_⟩
        · rw [relab_lt (by omega), e2 g (by omega), e1 g hg]
        · rcases hg3 g hg with z | z
          · rw [relab_lt (Nat.lt_of_lt_of_le (lv g z) s2), e2 g (lv g z), z1 g z]
          · exact relab_ge z
        · refine (D.k.then k2 (fun g hg e => ?_)).then k3 (fun g hg e => ?_)
          · have := a1.ox; rw [← e, e1 g hg] at this; omega
          · have := (OwnN.lt D.ow e).1; omega
        · rw [keysTo_step]; exact o3
      have D3 := Lib.hid D3
      clear D ou a2 k2 ov2 o3 k3 hg3 a1
      go_wp2
      go_roundw
      case rel => exact ⟨k + 1, by omega, by go_num, D3.out⟩
      case measure => simp [intOf]; omega
    · obtain rfl : k = n := by omega
      obtain ⟨mk1, o1, a1, e1, z1⟩ := D.hx
      have kl := keysTo_len k h.put k
      obtain ⟨A, c, ev, hA0, hA1⟩ := D.ow.shapeN
      cases A with
      | none =>
        have h0 := hA0 rfl
        rw [h0] at ev sk
        have ek : h.keys 64 = [] := by rw [← sk]; simp
        subst ev
        have R : Lists x p k s h vs qf pf af o C w (h.keys 64) (.slice none 0 c) wr := by rw [ek, ← h0]; exact D
        have R := Lib.hid R
        clear D a1 hA0 hA1 sk
        go_wp2_with fail
        refine (Try.slices_Sort_int_none none c wr).mono ?_
        rintro e w' ⟨rfl, rfl⟩
        go_wp2
        go_ret
        exact ⟨_, rfl, R.out⟩
      | some ad =>
        obtain ⟨g, rfl⟩ := hA1 _ rfl
        subst ev
        obtain ⟨ts, ets⟩ : ∃ ts, keysTo k k h.put = ts := ⟨_, rfl⟩
        have ow := D.ow
        rw [ets] at sk ow kl
        obtain ⟨_, h2⟩ := id ow
        rcases h2 with ⟨h2, _⟩ | ⟨g', c', cur, hv, hb, hh, hl, hm, hs, ht⟩
        · simp at h2
        simp at hv
        obtain ⟨rfl, rfl⟩ := hv
        have hso := Try.slices_Sort_int g 0 c ts wr (holds_of_blockI hh (by simpa using ht)) (lt_of_block hh) (by have := Nat.mul_le_mul n1 sh; omega)
        rw [sk] at hso
        have lk : (h.keys 64).length = ts.length := by rw [← sk]; simp
        have F : ∀ nn os, Lists x p k s h vs qf pf af o C w (h.keys 64) (.slice (some ⟨g, 0, none⟩) ts.length c) (Sort.grow (Sort.putRow (Value.int .i64) (Sort.ahead wr nn) g 0 (h.keys 64).toArray) os) := fun nn os => by
          have gr : wr.grownBy (Sort.grow (Sort.putRow (Value.int .i64) (Sort.ahead wr nn) g 0 (h.keys 64).toArray) os) (some g) := grownBy_sortedI _
          have k4 : Keep (fun j => j = g) wr (Sort.grow (Sort.putRow (Value.int .i64) (Sort.ahead wr nn) g 0 (h.keys 64).toArray) os) := ⟨gr.os, gr.tape, gr.output, gr.size, fun j hj hn => gr.block j hj (fun e => hn (by cases e; rfl))⟩
          refine ⟨⟨_, _, a1.quiet k4 (fun j hj e => by rw [e]; exact z1 g rfl) 0, fun j hj => ?_, fun j hj => ?_⟩, D.k.then k4 (fun j hj e => by rw [e] at hj; omega), ?_⟩
          · rw [relab_lt (Nat.lt_of_lt_of_le hj D.k.size), e1 j hj]
          · cases hj
            rw [relab_lt (lt_of_block hh)]
            exact z1 g rfl
          · unfold OwnN
            rw [lk]
            exact ownsRow_sortedI lk hb hh hl hm hs
        have F := Lib.hid F
        rw [ets]
        clear D a1 hA0 hA1 sk ow ht hs hm hl hh ets
        go_wp2_with fail
        refine hso.mono ?_
        rintro e w' ⟨rfl, nn, os, rfl⟩
        have F := Lib.hid (F.out nn os)
        generalize Sort.grow _ _ = W at F ⊢
        clear hso
        go_wp2
        go_ret
        exact ⟨_, rfl, F.out⟩
end
end Go.Proofs.Ytmfpjnlplimkeaa
