/- Proved here: vinculumlaw3.PoolStale returns true and leaves its arguments as they were, for every int and every slice of ints; no further condition. -/
import Derived.Test.YtecnlneilgiheaaTwo
import Derived.Test.YtecnlneilgiheaaStale
import Derived.Test.YtecnlneilgiheaaRow
import Derived.Test.YtecnlneilgiheaaRef3b
import Derived.ChangeOld
import Derived.Deep.CutRange
import Derived.Deep.CutBlock
import Derived.Deep.LoopGhost
namespace Go.Proofs.Ytecnlneilgiheaa.poolStale
open Go.ChangeShapes Go.WideShapes Go.ChangeAt Go.RowKit
set_option linter.unusedVariables false

def SR (n len p k : Nat) (W : World) (v1 v2 q : Value) (wr : World) : Prop :=
  ∃ S s L G, k ≤ len ∧ k ≤ 80 ∧ q = .int .i64 k ∧ G.length ≤ k ∧ Inv n k s L G ∧ Two W wr p S s v1 L v2 G
/-- What a Take does, decided ahead of the walk. -/
theorem ahead {n k : Nat} {s : St} {L G : List Int} (h : Inv n k s L G) (hn : L.length < n) : ∃ i s', i < s.tags.length ∧ Ok s' ∧ Inv n (k + 1) s' (L ++ [s.link i]) G ∧ (∀ j, j < L.length → (L.getD j 0 == s.link i) = false) ∧ (∀ j, j < G.length → (G.getD j 0 == s.link i) = false) ∧
    (∀ w p S, PoolAt w p S s → Calls Try.prog 9 #[.pointer (some ⟨p, 0, none⟩)] w (PPost (.tuple #[.int .u64 (s.link i), .int .i64 0]) p S s' w)) := by
  rcases h.room hn with ⟨gs, i, hg⟩ | ⟨hg, i, hi, hf⟩
  · obtain ⟨hi, hk, ok'⟩ := ok_takeGiven h.ok hg
    obtain ⟨a, b, c⟩ := h.take hi hk gs s.fresh _ rfl ok'
    exact ⟨i, _, hi, ok', a, b, c, fun w p S hp => ptake_given hp h.ok gs i hg⟩
  · obtain ⟨hk, ok'⟩ := ok_takeFresh h.ok hi hf
    obtain ⟨a, b, c⟩ := h.take hf hk s.given ((i : Int) + 1) _ rfl ok'
    exact ⟨i, _, hf, ok', a, b, c, fun w p S hp => ptake_fresh hp h.ok hg i hi hf⟩
theorem one_all (z : List Int) : ∀ u ∈ z.map (Value.int .u64), u.oneCell' = true := by
  intro u hu
  obtain ⟨x, _, rfl⟩ := List.mem_map.1 hu
  rfl
theorem take_lies {w w' : World} {B g c : Nat} {L : List Int} (o : OwnU B w (.slice (some ⟨g, 0, none⟩) L.length c) L) (k : ∀ (t : Nat) u, w.cell? ⟨g, t, none⟩ = some u → w'.cell? ⟨g, t, none⟩ = some u) (j : Nat) : ∀ t u, ((L.take j).map (Value.int .u64))[t]? = some u → w'.cell? ((⟨g, 0, none⟩ : Addr).add t) = some u := by
  intro t u hu
  rw [List.getElem?_map, Option.map_eq_some_iff] at hu
  obtain ⟨z, hz, rfl⟩ := hu
  rw [add_plain, Nat.zero_add]
  rw [List.getElem?_take] at hz
  split at hz
  · obtain ⟨ht, e⟩ := List.getElem?_eq_some_iff.1 hz
    refine k t _ ?_
    rw [o.cell t ht, List.getD_eq_getElem?_getD, hz]
    rfl
  · cases hz
theorem drop_lies {w w' : World} {B g c : Nat} {L : List Int} (o : OwnU B w (.slice (some ⟨g, 0, none⟩) L.length c) L) (k : ∀ (t : Nat) u, w.cell? ⟨g, t, none⟩ = some u → w'.cell? ⟨g, t, none⟩ = some u) (j : Nat) {ad : Addr} (had : ¬ c = j + 1 → ad = ⟨g, j + 1, none⟩) (hc : L.length ≤ c) : ∀ t u, ((L.drop (j + 1)).map (Value.int .u64))[t]? = some u → w'.cell? (ad.add t) = some u := by
  intro t u hu
  rw [List.getElem?_map, Option.map_eq_some_iff] at hu
  obtain ⟨z, hz, rfl⟩ := hu
  rw [List.getElem?_drop] at hz
  obtain ⟨ht, e⟩ := List.getElem?_eq_some_iff.1 hz
  rw [had (by omega), add_plain]
  refine k (j + 1 + t) _ ?_
  rw [o.cell (j + 1 + t) ht, List.getD_eq_getElem?_getD, hz]
  rfl
theorem own_lower {w : World} {B B' n : Nat} {v : Value} {xs : List Value} (o : w.ownsRow B' 28 1 v n xs) (z : List Int) (hn : n = z.length) (hx : xs = z.map (Value.int .u64)) (hB : B ≤ B') : OwnU B w v z := by
  subst hn; subst hx
  obtain ⟨h1, h2⟩ := o
  refine ⟨h1, ?_⟩
  rcases h2 with h2 | ⟨g, c, cur, hv, hg, r⟩
  · exact .inl h2
  · exact .inr ⟨g, c, cur, hv, Nat.le_trans hB hg, r⟩
set_option maxRecDepth 100000 in
set_option maxHeartbeats 8000000 in
theorem walk (a0 : Int) (a1 : Option Addr) (len1 cap1 : Nat) (z1 : List Int) (w : World) (w0 : (Lit.int .i64 a0).wf = true) (w1 : IsRow .i64 w a1 len1 cap1 z1) :
    Calls Try.prog 3 #[.int .i64 a0, .slice a1 len1 cap1] w fun e w' => e = .returned (.bool true) ∧ Below w.heap.size w w' := by
  obtain ⟨p0, p1⟩ := bounds_i64 w0
  obtain ⟨m0, em0⟩ : ∃ m : Nat, a0 % 256 = m := ⟨(a0 % 256).toNat, by omega⟩
  have hm0 : bits .and .i64 a0 255 = m0 := (i64_mask a0 8 (by decide)).trans em0
  obtain ⟨n, en⟩ : ∃ n : Nat, (m0 : Int) % 12 + 1 = n := ⟨((m0 : Int) % 12 + 1).toNat, by omega⟩
  have n1 : 1 ≤ n := by omega
  have n2 : n ≤ 12 := by omega
  have lc := w1.cap
  have lm := w1.max
  clear em0
  go_enter Try.func3, Try.ntmps3
  go_wp2_with fail
  refine (pnew_ok n 65535 _ n1 (by omega) (by omega) (by omega)).mono ?_
  rintro e x1 ⟨p, S1, rfl, h1, g1, b1⟩
  have D1 := Two.start h1 g1 b1
  have I0 := inv_new n n1 (by omega)
  clear h1 g1 b1 hm0 en
  go_upto_block 0 with fail
  go_cut [7, 8] from 32 to 125 (fun v1 v2 wx => ∃ k S s L G, k ≤ 80 ∧ G.length ≤ k ∧ Inv n k s L G ∧ Two w wx p S s v1 L v2 G)
  case first =>
    go_wp2_with fail
    go_loopg [7, 8, 9] len1 (fun m v1 v2 q wr => ∃ k : Nat, m + k = len1 ∧ SR n len1 p k w v1 v2 q wr)
    case atStart => exact ⟨0, rfl, S1, _, [], [], Nat.zero_le _, by omega, rfl, by simp, I0, D1⟩
    case round =>
      obtain ⟨k, hgk, S, s, L, G, kl, k80, rfl, gl, I, D⟩ := hrel
      clear D1 I0
      by_cases hlt : k < len1 ∧ k < 80
      · obtain ⟨hl, h80⟩ := hlt
        obtain ⟨b, off, rfl, hb, hc⟩ := w1.cell (by omega)
        have hc := hc k hl
        obtain ⟨x, ex⟩ : ∃ x, z1.getD k 0 = x := ⟨_, rfl⟩
        rw [ex] at hc
        clear ex
        have hc := (D.bl.cell (p := ⟨b, off + k, none⟩) hb).trans hc
        have hx : bits .and .i64 x 1 = x % 2 := i64_mask x 1 (by decide)
        have ln := I.len.2
        by_cases hpar : x % 2 = 0
        · rw [hpar] at hx
          clear hpar
          obtain ⟨A1, c1, rfl, hA0, hA1⟩ := D.o1.openUp
          obtain ⟨A2, c2, rfl, hB0, hB1⟩ := D.o2.openUp
          by_cases hroom : L.length < n
          · obtain ⟨i, s', hi, ok', I', n1', n2', hT⟩ := ahead I hroom
            have dl : decide (L.length < n) = true := decide_eq_true hroom
            have lb := link_b I.ok i hi
            obtain ⟨l, el⟩ : ∃ y, s.link i = y := ⟨_, rfl⟩
            rw [el] at I' n1' n2' hT lb
            clear el
            go_wp2_with fail
            refine (hT _ _ _ D.hp).mono ?_
            rintro e w2 ⟨rfl, S2, h2, k2, g2⟩
            have D := D.pstep h2 k2 g2
            clear h2 k2 g2 hc hT hx
            go_wp2
            go_loop [12] (fun q => ∃ j : Nat, j ≤ L.length ∧ q = .int .i64 j) (fun q => L.length - (intOf q).toNat)
            case atStart => exact ⟨0, Nat.zero_le _, rfl⟩
            case round =>
              obtain ⟨j, hj, rfl⟩ := hrel
              by_cases hjl : j < L.length
              · cases A1 with
                | none => exact absurd (hA0 rfl) (by intro e; subst e; simp at hjl)
                | some ad =>
                  obtain ⟨ga, rfl⟩ := hA1 _ rfl
                  have cj := D.o1.cell j hjl
                  have ne := n1' j hjl
                  obtain ⟨y, ey⟩ : ∃ y, L.getD j 0 = y := ⟨_, rfl⟩
                  rw [ey] at cj ne
                  clear ey n1' n2' hA0 hA1 hB0 hB1
                  go_wp2
                  go_round
                  case rel => exact ⟨j + 1, by omega, by go_num⟩
                  case measure => simp [intOf]; omega
              · obtain rfl : j = L.length := by omega
                clear n1'
                go_wp2
                go_loop [13] (fun q => ∃ j : Nat, j ≤ G.length ∧ q = .int .i64 j) (fun q => G.length - (intOf q).toNat)
                case atStart => exact ⟨0, Nat.zero_le _, rfl⟩
                case round =>
                  obtain ⟨j, hj, rfl⟩ := hrel
                  by_cases hjl : j < G.length
                  · cases A2 with
                    | none => exact absurd (hB0 rfl) (by intro e; subst e; simp at hjl)
                    | some ad =>
                      obtain ⟨ga, rfl⟩ := hB1 _ rfl
                      have cj := D.o2.cell j hjl
                      have ne := n2' j hjl
                      obtain ⟨y, ey⟩ : ∃ y, G.getD j 0 = y := ⟨_, rfl⟩
                      rw [ey] at cj ne
                      clear ey n2' hA0 hA1 hB0 hB1
                      go_wp2
                      go_round
                      case rel => exact ⟨j + 1, by omega, by go_num⟩
                      case measure => simp [intOf]; omega
                  · obtain rfl : j = G.length := by omega
                    clear n2' hA0 hA1 hB0 hB1
                    go_wp2_with (with_reducible refine wp_stop 89 rfl ?_)
                    intro _
                    refine wp_push rfl (.tmp 86) (.tmp 88) rfl w.heap.size D.bl.size (.slice A1 L.length c1) L rfl D.o1 l rfl (by omega) ?_
                    intro g c w4 o4 k4 hg4
                    have D := D.push o4 k4 hg4
                    clear o4 k4 hg4
                    go_wp2
                    go_roundg (len1 - (k + 1))
                    case measure => omega
                    case rel => exact ⟨k + 1, by omega, S2, s', _, G, by omega, by omega, by go_num, by omega, I', D⟩
          · have hfull : L.length = n := by omega
            obtain ⟨f1, f2⟩ := I.full hfull
            have dl : decide (L.length < n) = false := decide_eq_false hroom
            have I' := I.later
            clear hfull
            go_wp2_with fail
            refine (ptake_full D.hp I.ok f1 f2).mono ?_
            rintro e w2 ⟨rfl, S2, h2, k2, g2⟩
            have D := D.pstep h2 k2 g2
            clear h2 k2 g2 hc f1 f2 hx
            go_wp2
            go_roundg (len1 - (k + 1))
            case measure => omega
            case rel => exact ⟨k + 1, by omega, S2, s, L, G, by omega, by omega, by go_num, by omega, I', D⟩
        · have hpar : x % 2 = 1 := by omega
          rw [hpar] at hx
          clear hpar
          by_cases he : L = []
          · subst he
            obtain ⟨A1, c1, rfl, hA0, hA1⟩ := D.o1.openUp
            have I' := I.later
            clear hA0 hA1
            go_wp2
            go_roundg (len1 - (k + 1))
            case measure => omega
            case rel => exact ⟨k + 1, by omega, S, s, [], G, by omega, by omega, by go_num, by omega, I', D⟩
          · have hpos : 0 < L.length := List.length_pos_iff.2 he
            obtain ⟨m2, em2⟩ : ∃ m : Nat, x / 2 % 256 = m := ⟨(x / 2 % 256).toNat, by omega⟩
            have hm2 : bits .and .i64 (x / 2) 255 = m2 := (i64_mask (x / 2) 8 (by decide)).trans em2
            obtain ⟨j, ej⟩ : ∃ j : Nat, m2 % L.length = j := ⟨_, rfl⟩
            have hj : j < L.length := by rw [← ej]; exact Nat.mod_lt _ hpos
            have ek : (m2 : Int) % (L.length : Int) = (j : Int) := by rw [← ej]; rfl
            clear em2 ej
            obtain ⟨i, s', el, hi, ht, hm, es, I'⟩ := I.give (by omega) j hj
            have lb := link_b I.ok i hi
            obtain ⟨g1, c1, hv1, _, _⟩ := own_some D.o1 (fun e => by obtain ⟨h1, h2⟩ := D.o1; rcases h2 with ⟨_, h3⟩ | ⟨_, _, _, h3, _⟩; omega; rw [e] at h3; simp at h3)
            subst hv1
            obtain ⟨A2, c2, rfl, _, _⟩ := D.o2.openUp
            have cj := D.o1.cell j hj
            have c1l : L.length ≤ c1 ∧ c1 ≤ 9223372036854775807 := by
              obtain ⟨_, h2⟩ := D.o1
              rcases h2 with ⟨h3, _⟩ | ⟨_, _, _, h3, _, _, h4, h5, _⟩
              · simp at h3
              · simp at h3; unfold maxLen at h5; omega
            have hG := fun (w : World) (S : Nat → Prop) (h : PoolAt w p S s) => pg_ok h I.ok i hi ht hm
            obtain ⟨l, em⟩ : ∃ y, s.link i = y := ⟨_, rfl⟩
            have hG := fun (w : World) (S : Nat → Prop) (h : PoolAt w p S s) => hG w S h l em s' es
            rw [el, em] at cj I'
            rw [em] at lb
            clear el em es hm ht hi
            go_wp2_with fail
            rw [ek]
            refine (hG _ _ D.hp).mono ?_
            rintro e w2 ⟨rfl, S2, h2, k2, g2⟩
            have cj := k2.cell cj (D.d1 _ rfl)
            have D := D.pstep h2 k2 g2
            clear h2 k2 g2 hc hG hx hm2 ek
            go_wp2_with (with_reducible refine wp_stop 115 rfl ?_)
            intro _
            refine wp_push rfl (.tmp 109) (.tmp 114) rfl w.heap.size D.bl.size (.slice A2 G.length c2) G rfl D.o2 l rfl (by omega) ?_
            intro g2 d2 w4 o4 k4 hg4
            have D := (D.swap.push o4 k4 hg4).swap
            clear o4 k4 hg4 cj
            go_wp2_with fail
            have sj : IntKind.i64.wrap ((j : Int) + 1) = (j : Int) + 1 := IntWalk.i64_in _ (by omega)
            have sj2 : (0 : Int) ≤ (j : Int) + 1 := by omega
            have sj3 : ((j : Int) + 1).toNat = j + 1 := by omega
            have sj4 : j + 1 ≤ c1 := by omega
            have sj5 : j ≤ c1 := by omega
            have sj6 : j + 1 ≤ L.length := by omega
            have sj7 : j ≤ L.length := by omega
            have sj9 : (j : Int) + 1 ≤ (L.length : Int) := by omega
            obtain ⟨ad, ead, had⟩ : ∃ ad : Addr, (if c1 = j + 1 then some ({ block := g1, off := 0 } : Addr) else some { block := g1, off := j + 1 }) = some ad ∧ (¬ c1 = j + 1 → ad = ⟨g1, j + 1, none⟩) := by
              by_cases hc : c1 = j + 1
              · exact ⟨⟨g1, 0, none⟩, by rw [if_pos hc], fun h => absurd hc h⟩
              · exact ⟨⟨g1, j + 1, none⟩, by rw [if_neg hc], fun _ => rfl⟩
            obtain ⟨i0, hi0, hz0, hz1, hz2⟩ := info_parts info_push
            refine wp_region_held_drew (S := (fun _ => True)) (by kernel_rfl) trivial (fun hHeld => ?_)
            refine wpAnyH_take (i := 1) (v := ?qvsa1) rfl (by kernel_rfl) (by kernel_rfl) (by kernel_rfl) (fun _ _ _ h => h) (Or.inl ⟨by rfl, ?qysa1⟩) (by assumption) ?qrsa1; case qysa1 => ((intro w hSw; (try dsimp only at hSw); go_simp); try (with_reducible rfl))
            ((try simp only [List.getElem_toArray]); (try simp only [List.getElem_cons_succ]); (try simp only [List.getElem_cons_zero]); (try simp only [Act.put]); (try simp only [List.setIfInBounds_toArray]); (try simp only [List.set_cons_succ]); (try simp only [List.set_cons_zero]))
            refine wpAnyH_take (i := 2) (v := ?qvsa2) rfl (by kernel_rfl) (by kernel_rfl) (by kernel_rfl) (fun _ _ _ h => h) (Or.inl ⟨by rfl, ?qysa2⟩) (by assumption) ?qrsa2; case qysa2 => ((intro w hSw; (try dsimp only at hSw); go_simp); try (with_reducible rfl))
            ((try simp only [List.getElem_toArray]); (try simp only [List.getElem_cons_succ]); (try simp only [List.getElem_cons_zero]); (try simp only [Act.put]); (try simp only [List.setIfInBounds_toArray]); (try simp only [List.set_cons_succ]); (try simp only [List.set_cons_zero]))
            refine wpAnyH_take (i := 3) (v := ?qvsa3) rfl (by kernel_rfl) (by kernel_rfl) (by kernel_rfl) (fun _ _ _ h => h) (Or.inl ⟨by rfl, ?qysa3⟩) (by assumption) ?qrsa3; case qysa3 => ((intro w hSw; (try dsimp only at hSw); go_simp); try (with_reducible rfl))
            ((try simp only [List.getElem_toArray]); (try simp only [List.getElem_cons_succ]); (try simp only [List.getElem_cons_zero]); (try simp only [Act.put]); (try simp only [List.setIfInBounds_toArray]); (try simp only [List.set_cons_succ]); (try simp only [List.set_cons_zero]))
            refine wpAnyH_take (i := 5) (v := ?qvsa5) rfl (by kernel_rfl) (by kernel_rfl) (by kernel_rfl) (fun _ _ _ h => h) (Or.inl ⟨by rfl, ?qysa5⟩) (by assumption) ?qrsa5; case qysa5 => ((intro w hSw; (try dsimp only at hSw); go_simp); try (with_reducible rfl))
            ((try simp only [List.getElem_toArray]); (try simp only [List.getElem_cons_succ]); (try simp only [List.getElem_cons_zero]); (try simp only [Act.put]); (try simp only [List.setIfInBounds_toArray]); (try simp only [List.set_cons_succ]); (try simp only [List.set_cons_zero]))
            refine wpAnyH_take (i := 6) (v := ?qvsa6) rfl (by kernel_rfl) (by kernel_rfl) (by kernel_rfl) (fun _ _ _ h => h) (Or.inl ⟨by rfl, ?qysa6⟩) (by assumption) ?qrsa6; case qysa6 => ((intro w hSw; (try dsimp only at hSw); go_simp); try (with_reducible rfl))
            ((try simp only [List.getElem_toArray]); (try simp only [List.getElem_cons_succ]); (try simp only [List.getElem_cons_zero]); (try simp only [Act.put]); (try simp only [List.setIfInBounds_toArray]); (try simp only [List.set_cons_succ]); (try simp only [List.set_cons_zero]))
            refine wpAnyH_take (i := 7) (v := ?qvsa7) rfl (by kernel_rfl) (by kernel_rfl) (by kernel_rfl) (fun _ _ _ h => h) (Or.inl ⟨by rfl, ?qysa7⟩) (by assumption) ?qrsa7; case qysa7 => ((intro w hSw; (try dsimp only at hSw); go_simp); try (with_reducible rfl))
            ((try simp only [List.getElem_toArray]); (try simp only [List.getElem_cons_succ]); (try simp only [List.getElem_cons_zero]); (try simp only [Act.put]); (try simp only [List.setIfInBounds_toArray]); (try simp only [List.set_cons_succ]); (try simp only [List.set_cons_zero]))
            refine wpAnyH_take (i := 8) (v := ?qvsa8) rfl (by kernel_rfl) (by kernel_rfl) (by kernel_rfl) (fun _ _ _ h => h) (Or.inl ⟨by rfl, ?qysa8⟩) (by assumption) ?qrsa8; case qysa8 => ((intro w hSw; (try dsimp only at hSw); go_simp); try (with_reducible rfl))
            ((try simp only [List.getElem_toArray]); (try simp only [List.getElem_cons_succ]); (try simp only [List.getElem_cons_zero]); (try simp only [Act.put]); (try simp only [List.setIfInBounds_toArray]); (try simp only [List.set_cons_succ]); (try simp only [List.set_cons_zero]))
            refine wpAnyH_ready (rs := [0]) (by kernel_rfl) (by simp) ?_
            refine AllReadyH.cons rfl (fun K hK => ?_) AllReadyH.nil
            go_simp
            refine hK.out _ _ trivial (fun hHeld => ?_)
            clear hK K
            ((try simp only [List.getElem_toArray]); (try simp only [List.getElem_cons_succ]); (try simp only [List.getElem_cons_zero]); (try simp only [Act.put]); (try simp only [List.setIfInBounds_toArray]); (try simp only [List.set_cons_succ]); (try simp only [List.set_cons_zero]))
            refine wpAnyH_ready (rs := [4]) (by kernel_rfl) (by simp) ?_
            refine AllReadyH.cons rfl (fun K hK => ?_) AllReadyH.nil
            refine step_append_own rfl (.tmp 116) (.tmp 119) 27 rfl w4.heap.size 28 i0 (.int .u64 0) 1 8 Try.underlying27 hi0 hz0 hz1 hz2 rfl (by decide) (.slice (some ⟨w4.heap.size, 0, none⟩) 0 0) 0 [] rfl (World.ownsRow_lit _ #[] 0 (Nat.le_refl _) (by unfold maxLen; omega) rfl) ⟨g1, 0, none⟩ j c1 ((L.take j).map (Value.int .u64)) rfl (by simp; omega) (take_lies D.o1 (fun t u ht => ((Keep.refl (fun _ => False) w4).drew.alloc _).cell ht (by simp)) j) (one_all _) (by unfold maxLen; omega) (by omega) (by simp) ?_
            intro v5 w5 o5 gr5 hne5
            obtain ⟨g5, c5, rfl, gb5, gl5⟩ := own_some o5 (fun e => absurd (hne5.1 e).1 (by simp))
            have k5 := ((Keep.refl (fun _ => False) w4).drew.alloc (.cells #[] 28)).grown gr5 (fun j hj => by cases hj; exact Nat.le_refl _)
            refine hK.out _ _ trivial (fun hHeld => ?_)
            clear hK K hne5 gr5
            ((try simp only [List.getElem_toArray]); (try simp only [List.getElem_cons_succ]); (try simp only [List.getElem_cons_zero]); (try simp only [Act.put]); (try simp only [List.setIfInBounds_toArray]); (try simp only [List.set_cons_succ]); (try simp only [List.set_cons_zero]))
            refine wpAnyH_ready (rs := [9]) (by kernel_rfl) (by simp) ?_
            refine AllReadyH.cons rfl (fun K hK => ?_) AllReadyH.nil
            refine step_append_own rfl (.tmp 120) (.tmp 124) 27 rfl w4.heap.size 28 i0 (.int .u64 0) 1 8 Try.underlying27 hi0 hz0 hz1 hz2 rfl (by decide) (.slice (some ⟨g5, 0, none⟩) (0 + j) c5) (0 + j) _ rfl o5 ad (L.length - (j + 1)) (c1 - (j + 1)) ((L.drop (j + 1)).map (Value.int .u64)) rfl (by simp) (drop_lies D.o1 (fun t u ht => k5.cell ht (by simp)) j had c1l.1) (one_all _) (by unfold maxLen; omega) (by omega) k5.size ?_
            intro v6 w6 o6 gr6 _
            have k6 := k5.grown gr6 (fun j hj => by cases hj; exact gb5)
            have D := D.anew (own_lower o6 (L.take j ++ L.drop (j + 1)) (by simp; omega) (by simp) D.bl.size) k6 (fun x hx => (World.ownsRow.lt o6 x hx).1)
            refine hK.out _ _ trivial (fun hHeld => ?_)
            clear hK K gr6 o6 o5 k5 k6
            ((try simp only [List.getElem_toArray]); (try simp only [List.getElem_cons_succ]); (try simp only [List.getElem_cons_zero]); (try simp only [Act.put]); (try simp only [List.setIfInBounds_toArray]); (try simp only [List.set_cons_succ]); (try simp only [List.set_cons_zero]))
            refine wpAnyH_take (i := 10) (v := ?qvsa10) rfl (by kernel_rfl) (by kernel_rfl) (by kernel_rfl) (fun _ _ _ h => h) (Or.inl ⟨by rfl, ?qysa10⟩) (by assumption) ?qrsa10; case qysa10 => ((intro w hSw; (try dsimp only at hSw); go_simp); try (with_reducible rfl))
            ((try simp only [List.getElem_toArray]); (try simp only [List.getElem_cons_succ]); (try simp only [List.getElem_cons_zero]); (try simp only [Act.put]); (try simp only [List.setIfInBounds_toArray]); (try simp only [List.set_cons_succ]); (try simp only [List.set_cons_zero]))
            refine wpAnyH_done (by kernel_rfl) ?_ _
            go_wp2
            go_roundg (len1 - (k + 1))
            case measure => omega
            case rel => exact ⟨k + 1, by omega, S2, s', _, _, by omega, by omega, by go_num, by simp; omega, I', D⟩
      · rcases (by omega : (k = 80 ∧ k < len1) ∨ k = len1) with ⟨rfl, hl⟩ | rfl
        all_goals
          go_wp2_with fail
          go_meet
          case rel => exact ⟨_, S, s, L, G, k80, gl, I, D⟩
  case rest =>
  obtain ⟨k, S, s, L, G, k80, gl, I, D⟩ := hcut
  clear D1 I0
  obtain ⟨A1, c1, rfl, hA0, hA1⟩ := D.o1.openUp
  obtain ⟨A2, c2, rfl, hB0, hB1⟩ := D.o2.openUp
  have ln := I.len.2
  have n4 := I.n4
  go_wp2
  go_loopw [15] (fun q wr => ∃ j : Nat, ∃ S, j ≤ G.length ∧ q = .int .i64 j ∧ Two w wr p S s (.slice A1 L.length c1) L (.slice A2 G.length c2) G) (fun q _ => G.length - (intOf q).toNat)
  case atStart => exact ⟨0, S, Nat.zero_le _, rfl, D⟩
  case round =>
    obtain ⟨j, S, hj, rfl, D⟩ := hrel
    by_cases hjl : j < G.length
    · cases A2 with
      | none => exact absurd (hB0 rfl) (by intro e; subst e; simp at hjl)
      | some ad =>
        obtain ⟨ga, rfl⟩ := hB1 _ rfl
        have cj := D.o2.cell j hjl
        obtain ⟨hlv, l0, l1⟩ := I.gone (g := G.getD j 0) (by rw [List.getD_eq_getElem?_getD, List.getElem?_eq_getElem hjl]; exact List.getElem_mem hjl)
        obtain ⟨l, el⟩ : ∃ y, G.getD j 0 = y := ⟨_, rfl⟩
        rw [el] at cj hlv l0 l1
        clear el hB0 hB1
        go_wp2_with fail
        refine (plive_no D.hp I.ok l l0 l1 hlv).mono ?_
        rintro e w2 ⟨rfl, S2, h2, k2, g2⟩
        have cj := k2.cell cj (D.d2 _ rfl)
        have D := D.pstep h2 k2 g2
        clear h2 k2 g2
        go_wp2_with fail
        refine (pgive_no D.hp I.ok l l0 l1 hlv).mono ?_
        rintro e w3 ⟨rfl, S3, h3, k3, g3⟩
        have D := D.pstep h3 k3 g3
        clear h3 k3 g3 cj
        go_wp2
        go_roundw
        case rel => exact ⟨j + 1, S3, by omega, by go_num, D⟩
        case measure => simp [intOf]; omega
    · obtain rfl : j = G.length := by omega
      go_wp2
      go_loopw [16] (fun q wr => ∃ j : Nat, ∃ S, j ≤ L.length ∧ q = .int .i64 j ∧ Two w wr p S s (.slice A1 L.length c1) L (.slice A2 G.length c2) G) (fun q _ => L.length - (intOf q).toNat)
      case atStart => exact ⟨0, S, Nat.zero_le _, rfl, D⟩
      case round =>
        obtain ⟨j, S, hj, rfl, D⟩ := hrel
        by_cases hjl : j < L.length
        · cases A1 with
          | none => exact absurd (hA0 rfl) (by intro e; subst e; simp at hjl)
          | some ad =>
            obtain ⟨ga, rfl⟩ := hA1 _ rfl
            have cj := D.o1.cell j hjl
            obtain ⟨i, el, hi, ht⟩ := I.liveAt j hjl
            have lb := link_b I.ok i hi
            have hP := fun (w : World) (S : Nat → Prop) (h : PoolAt w p S s) => pl_yes h I.ok i hi ht
            obtain ⟨l, em⟩ : ∃ y, s.link i = y := ⟨_, rfl⟩
            have hP := hP _ _ D.hp l em
            rw [el, em] at cj
            rw [em] at lb
            clear el em hA0 hA1
            go_wp2_with fail
            refine hP.mono ?_
            rintro e w2 ⟨rfl, S2, h2, k2, g2⟩
            have D := D.pstep h2 k2 g2
            clear h2 k2 g2 cj hP
            go_wp2
            go_roundw
            case rel => exact ⟨j + 1, S2, by omega, by go_num, D⟩
            case measure => simp [intOf]; omega
        · obtain rfl : j = L.length := by omega
          have iu := I.len.1.symm
          have fr := I.free
          go_wp2_with fail
          refine (pu_to D.hp I.ok L.length iu).mono ?_
          rintro e w2 ⟨rfl, S2, h2, k2, g2⟩
          have D := D.pstep h2 k2 g2
          clear h2 k2 g2
          go_wp2_with fail
          refine (pf_to D.hp I.ok ((n : Int) - L.length) fr).mono ?_
          rintro e w3 ⟨rfl, S3, h3, k3, g3⟩
          have D := D.pstep h3 k3 g3
          clear h3 k3 g3 iu fr
          go_wp2_with fail
          refine (awake3_any _).mono ?_
          rintro e w9 ⟨rfl, b9⟩
          go_wp2
          go_ret
          exact ⟨rfl, D.bl.trans (b9.mono D.bl.size)⟩
theorem own : ownKnob Try.prog.godebug = none := by kernel_rfl
theorem laidOut : laidOutB Try.prog = true := by kernel_rfl
set_option maxRecDepth 100000 in
theorem lifted (os : Os) (started : os.Started) (H : Type) (enc : TypeId × Value → H) :
    ReturnsInHanded {} Try.checked os 3 .any (Rows.poolStaleSpec.pre6 enc Try.prog Try.f3 Rows.poolStaleRow.domain false) (Rows.poolStaleSpec.post enc Try.prog Try.f3 false true false false) := by
  refine returnsInHanded_of_change (C := Try.checked) own started (by kernel_rfl) Try.func3
    (ChangeSpec.witness6 (enc := enc) (C := Try.checked) false ⟨#[], #[.int .i64 0, .slice none 0 0], []⟩ 8 (by kernel_rfl) (by kernel_rfl) (by kernel_rfl) (by kernel_rfl)) ?_
  intro W base args ds gs before hval0 hW hcnd _
  have hval : ∀ (j : Nat) t v, Try.f3.params[j]? = some t → args[j]? = some v → Value.okWide Try.prog W .any base t v := hval0
  have hW' := hW
  obtain ⟨p, q, hA0, hV, rfl, hfz, hnd⟩ := hW
  have hA : DataW.TrodAll enc Try.prog W 0 (fun _ => true) true Try.f3.params.toList args.toList ds p := hA0
  rw [Try.params3] at hA hval
  obtain ⟨v0, vs0, d0, ds0, p0, q0, hargs, rfl, rfl, h0, r0⟩ := trodAll_cons hA
  obtain ⟨v1, vs1, d1, ds1, p1, q1, rfl, rfl, rfl, h1, r1⟩ := trodAll_cons r0
  obtain ⟨rfl, rfl, rfl⟩ := trodAll_nil r1
  obtain rfl : args = #[v0, v1] := by cases args; simp_all
  obtain ⟨rfl, rfl⟩ := trodVars_none hV
  obtain ⟨a0, rfl, rfl, rfl, w0⟩ := open_int Try.underlying3 (hval 0 3 v0 rfl rfl) h0
  obtain ⟨a1, len1, cap1, rfl⟩ := okWide_slice Try.underlying22 (hval 1 22 v1 rfl rfl)
  have k1 := h1
  have lt1 : ∀ x ∈ p1, x.block < W.heap.size := by obtain ⟨m, hm⟩ := k1; exact DataW.trod_lt m _ _ _ hm
  obtain ⟨z1, w1⟩ : ∃ zs, IsRow .i64 W a1 len1 cap1 zs := is_row Try.underlying22 Try.underlying3 (by kernel_rfl) h1
  clear hA0 hval0
  refine (walk a0 a1 len1 cap1 z1 W w0 w1).mono fun e W' ⟨he, bel⟩ => ?_
  subst he
  exact ⟨_, rfl, _, _, _, [], _, [], hW', trodAll_mk1 (shut_bool Try.underlying4 _), (trodAll_cons_mk (shut_int Try.underlying3 w0) (trodAll_cons_mk (Below.trod laidOut (by kernel_rfl) (of_decide_eq_true (by kernel_rfl)) k1 bel lt1) trodAll_mk0)), rfl, bel.frame _, fun h => by cases h⟩
theorem over : Rows.poolStaleRow.holds Try.pinned (OpenSpec.ofChange Rows.poolStaleSpec) :=
  OpenClaim.holds_of_wide 3 Try.f3 rfl rfl rfl rfl rfl rfl rfl ⟨rfl, rfl, rfl, rfl, rfl⟩ rfl rfl rfl rfl rfl (by kernel_rfl) Try.func3 (by kernel_rfl)
    (of_decide_eq_true (by kernel_rfl)) (by unfold Func.isWrapper; first | (rw [if_pos (by decide +kernel)]; kernel_rfl) | (rw [if_neg (by decide +kernel)]; exact ⟨rfl, rfl⟩))
    (fun os started H enc _ => lifted os started H enc)
theorem proved : Rows.PoolStaleSaid := over
#print axioms proved
end Go.Proofs.Ytecnlneilgiheaa.poolStale
