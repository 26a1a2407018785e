/- Proved here: vinculumlaw9.ChainPlays returns true and leaves its arguments as they were, for every slice of Ops; no further condition. -/
import Derived.Test.YtagboodnbgpnkaaChV
import Derived.Test.YtagboodnbgpnkaaChAt
import Derived.Test.YtagboodnbgpnkaaOps9
import Derived.Test.YtagboodnbgpnkaaSameO
import Derived.Test.YtagboodnbgpnkaaMask
import Derived.ChangeOld
import Derived.Deep.CutRange
import Derived.Deep.CutBlock
import Derived.Deep.LoopGhost
import Derived.Deep.RegionHeld3
namespace Go.Proofs.Ytagboodnbgpnkaa.chainPlays
open Go.ChangeShapes Go.WideShapes Go.ChangeAt Go.RowKit
set_option linter.unusedVariables false

def Rel (w : World) (len p q k : Nat) (v1 v2 v3 i : Value) (wr : World) : Prop :=
  ∃ S s l T F, k ≤ len ∧ k ≤ 60 ∧ i = .int .i64 k ∧ Ch3 w wr p q S s l (2000 + 10000 * k) v1 l v2 T v3 F ∧ Told s.s k T F ∧ l.length ≤ k
set_option maxRecDepth 100000 in
set_option maxHeartbeats 8000000 in
theorem walk (a0 : Option Addr) (len0 cap0 : Nat) (f : Nat → OpI) (w : World) (w0 : IsOps w a0 len0 cap0 f) :
    Calls Try.prog 4 #[.slice a0 len0 cap0] w fun e w' => e = .returned (.bool true) ∧ Below w.heap.size w w' := by
  obtain ⟨l1, l2, lc, ok2⟩ := w0
  go_enter Try.func4, Try.ntmps4
  go_wp2_with fail
  refine (made_any 30 (by omega) (by omega) _).mono ?_
  rintro e y1 ⟨p, q, S1, rfl, C1⟩
  go_wp2_with fail
  refine (awake9_any _).mono ?_
  rintro e y2 ⟨rfl, b2⟩
  have C1 := C1.quiet (Keep.of_below b2 (fun _ => False))
  clear b2
  go_wp2
  go_loopg [5, 6, 7, 8] len0 (fun m v1 v2 v3 i wr => ∃ k : Nat, m + k = len0 ∧ Rel w len0 p q k v1 v2 v3 i wr)
  case atStart => exact ⟨0, rfl, S1, RS.new 30, [], [], [], Nat.zero_le _, by omega, rfl, (Ch3.start C1).up (by omega), told_new 30, by simp⟩
  case round =>
    obtain ⟨k, hgk, S, s, l, T, F, kl, k60, rfl, B, H, ll⟩ := hrel
    clear C1
    by_cases hlt : k < len0 ∧ k < 60
    · obtain ⟨hl, h60⟩ := hlt
      obtain ⟨b, off, rfl, hb, hc⟩ := lc (by omega)
      obtain ⟨d0, d1, d2⟩ := hc k hl
      obtain ⟨s0, s1, t0, t1, u0, u1⟩ := ok2 k hl
      obtain ⟨o, eo⟩ : ∃ o, f k = o := ⟨_, rfl⟩
      rw [eo] at d0 d1 d2 s0 s1 t0 t1 u0 u1
      obtain ⟨kd, nn, lk⟩ := o
      dsimp only at d0 d1 d2 s0 s1 t0 t1 u0 u1
      have d0 := (B.r.b.cell (p := ⟨b, off + k * 3, none⟩) hb).trans d0
      have d1 := (B.r.b.cell (p := ⟨b, off + k * 3 + 1, none⟩) hb).trans d1
      have d2 := (B.r.b.cell (p := ⟨b, off + k * 3 + 2, none⟩) hb).trans d2
      clear eo hc lc ok2
      obtain ⟨A2, c2, rfl, hB0, hB1⟩ := OwnU.out B.a2
      obtain ⟨A3, c3, rfl, _, _⟩ := OwnU.out B.a3
      have hSl := B.r.lt
      have B := B.quiet (Keep.alloc (Keep.refl (fun _ => False) wr) (.cells #[.int .i64 kd, .int .i64 nn, .int .u64 lk] 40))
      obtain ⟨wA, eA⟩ : ∃ x, wr.alloc (.cells #[.int .i64 kd, .int .i64 nn, .int .u64 lk] 40) = x := ⟨_, rfl⟩
      have x0 : wA.cell? ⟨wr.heap.size, 0, none⟩ = some (.int .i64 kd) := by rw [← eA]; simp
      have x1 : wA.cell? ⟨wr.heap.size, 1, none⟩ = some (.int .i64 nn) := by rw [← eA]; simp
      have x2 : wA.cell? ⟨wr.heap.size, 2, none⟩ = some (.int .u64 lk) := by rw [← eA]; simp
      rw [eA] at B
      have hS0 : ∀ g, S g → g ≠ wr.heap.size := fun g hg => Nat.ne_of_lt (hSl g hg)
      clear hSl
      go_upto_region 10 with fail
      clear d0 d1 d2 eA
      go_cut [49] from 42 to 199 (fun s wx => s = .bool (decide (0 < T.length ∧ kd ≠ 4)) ∧ wA = wx)
      case first =>
        by_cases g1 : T.length = 0
        · go_wp2_with fail
          go_meet
          case rel => exact ⟨by rw [show decide (0 < T.length ∧ kd ≠ 4) = false from decide_eq_false (by omega)], rfl⟩
        · have g2 : 0 < T.length := by omega
          by_cases g3 : kd = 4
          · subst g3
            go_wp2_with fail
            go_meet
            case rel => exact ⟨by rw [show decide (0 < T.length ∧ (4 : Int) ≠ 4) = false from decide_eq_false (by omega)], rfl⟩
          · have g4 : (kd != 4) = true := by simpa using g3
            go_wp2_with fail
            go_meet
            case rel => exact ⟨by rw [show decide (0 < T.length ∧ kd ≠ 4) = true from decide_eq_true (by omega)], rfl⟩
      case rest =>
      obtain ⟨rfl, rfl⟩ := hcut
      go_upto_if 49 with fail
      go_cut [10] from 42 to 199 (fun s wx => (∃ x : Int, s = .int .u64 x ∧ U64 x) ∧ wA = wx)
      case first =>
        by_cases g1 : 0 < T.length ∧ kd ≠ 4
        · have g2 : decide (0 < T.length ∧ kd ≠ 4) = true := decide_eq_true g1
          cases A2 with
          | none => exact absurd (hB0 rfl) (by intro e; rw [e] at g1; simp at g1)
          | some ad =>
            obtain ⟨ga, rfl⟩ := hB1 _ rfl
            obtain ⟨m1', em1⟩ : ∃ m : Nat, nn % 65536 = m := ⟨(nn % 65536).toNat, by omega⟩
            have hm1 : bits .and .i64 nn 65535 = m1' := (i64_mask16 nn).trans em1
            obtain ⟨j, ej⟩ : ∃ j : Nat, m1' % T.length = j := ⟨_, rfl⟩
            have hj : j < T.length := by rw [← ej]; exact Nat.mod_lt _ g1.1
            have ek : (m1' : Int) % (T.length : Int) = (j : Int) := by rw [← ej]; rfl
            have cj := OwnU.cell B.a2 j hj
            have bj := H.tb _ (getD_mem hj)
            obtain ⟨y, ey⟩ : ∃ y, T.getD j 0 = y := ⟨_, rfl⟩
            rw [ey] at cj bj
            have zp := g1.1
            clear em1 ej ey
            go_wp2_with fail
            go_meet
            case rel => exact ⟨⟨y, rfl, bj⟩, rfl⟩
        · have g2 : decide (0 < T.length ∧ kd ≠ 4) = false := decide_eq_false g1
          go_wp2_with fail
          go_meet
          case rel => exact ⟨⟨lk, rfl, u0, u1⟩, rfl⟩
      case rest =>
      obtain ⟨⟨x, rfl, xb⟩, rfl⟩ := hcut
      clear x2 x1 u0 u1 t0 t1
      have tl := H.lt
      have fl := H.lf
      obtain ⟨r, hr⟩ : ∃ r : Int, (x ∉ l ∧ r = -1) ∨ ∃ i : Nat, FirstAt l x i ∧ r = i := by
        rcases first_or x l with h | ⟨i, h⟩
        · exact ⟨-1, .inl ⟨h, rfl⟩⟩
        · exact ⟨i, .inr ⟨i, h, rfl⟩⟩
      go_wp2_with fail
      refine (at_loop B.a1 (by omega) x r hr).mono ?_
      rintro e y3 ⟨rfl, rfl⟩
      go_upto_block 2 with fail
      go_cut [5, 6, 7] from 62 to 199 (fun v1 v2 v3 wx => ∃ S s l T F, Ch3 w wx p q S s l (7000 + 10000 * k) v1 l v2 T v3 F ∧ Told s.s (k + 1) T F ∧ l.length ≤ k + 1)
      case first =>
        rcases (by omega : kd = 0 ∨ (kd = 1 ∨ kd = 4) ∨ kd = 2 ∨ kd = 3 ∨ ¬ (0 ≤ kd ∧ kd ≤ 4)) with rfl | h14 | rfl | rfl | hkd
        · as_aux_lemma =>
          rcases H.make B.r.ok B.r.ln 5 k 1 2 (by omega) (by omega) (by omega) (by omega) with ⟨s', hmk, H'⟩ | ⟨x', s', hmk, xb', xn, xl, H'⟩
          · go_wp2_with fail
            refine (h_make B.r (by omega) _ _ 1 2 ⟨by omega, by omega⟩ ⟨by omega, by omega⟩ _ _ _ hmk).mono ?_
            rintro e y4 ⟨rfl, S4, C4, k4⟩
            have B := B.step C4 k4
            clear C4 k4 hmk
            go_wp2_with fail
            go_roundg (len0 - (k + 1))
            case measure => omega
            case rel => exact ⟨k + 1, by omega, S4, s', l, T, F, by omega, by omega, by go_num, B.up (by omega), H'.later (by omega), by omega⟩
          · go_wp2_with fail
            refine (h_make B.r (by omega) _ _ 1 2 ⟨by omega, by omega⟩ ⟨by omega, by omega⟩ _ _ _ hmk).mono ?_
            rintro e y4 ⟨rfl, S4, C4, k4⟩
            have B := B.step C4 k4
            clear C4 k4 hmk
            go_wp2_with (with_reducible refine wp_stop 77 rfl ?_)
            intro _
            refine wp_push rfl (.tmp 74) (.tmp 76) rfl w.heap.size B.r.b.size (.slice A2 T.length c2) T rfl B.a2 x' rfl (by omega) ?_
            intro g2 d2 y5 o5 k5 hg5
            have B := (B.rot.push (.inr o5) k5 hg5).rot.rot
            have hps : pushI s'.s l x' = (true, x' :: l) := by unfold pushI; rw [if_pos ⟨xl, xn⟩]
            clear o5 k5 hg5 xl xn
            go_wp2_with fail
            refine (h_push B.r (by omega) (by omega) x' xb' _ _ hps).mono ?_
            rintro e y6 ⟨rfl, S6, s6, e6, C6, k6⟩
            have B := B.step C6 k6
            have H' := H'.same e6
            clear C6 k6 hps e6
            rcases B.a1.shape with ⟨ev, el⟩ | ⟨g1, c1, ev, gB, gl, hc⟩
            · subst ev
              subst el
              go_wp2_with fail
              have B := B.anew (own_lit B.r.b.size x') (Keep.alloc (Keep.refl (fun _ => False) y6) _) (fun g hg => hg.elim) (fun g hg => .inr (by simp [Value.ownBlock] at hg; omega))
              go_meet
              case rel => exact ⟨S6, s6, _, T ++ [x'], F, B.up (by omega), H', by simp <;> omega⟩
            · subst ev
              have kA := Keep.alloc (Keep.refl (fun _ => False) y6) (.cells #[.int .u64 x'] 27)
              go_wp2_with (with_reducible refine wp_stop 85 rfl ?_)
              intro _
              refine wp_app rfl (.tmp 83) (.tmp 84) rfl y6.heap.size (by simp) (.slice (some ⟨y6.heap.size, 0, none⟩) 1 1) [x'] rfl (own_lit (Nat.le_refl _) _) ⟨g1, 0, none⟩ l.length c1 l rfl rfl (all_at B.a1 (fun t u h => kA.cell h (by simp))) (by simp) (by omega) ?_
              intro v7 y8 o7 k7
              have kk : Keep (fun x => x = y6.heap.size) y6 y8 := (kA.mono (fun _ h => h.elim)).trans (k7.mono (fun x hx => by simp [Value.ownBlock] at hx; exact hx.symm))
              have B := B.anew (o7.lower B.r.b.size) kk (fun x hx => .inr (by omega)) (fun x hx => .inr (OwnU.lt o7 hx).1)
              go_wp2_with fail
              go_meet
              case rel => exact ⟨S6, s6, _, T ++ [x'], F, B.up (by omega), H', by simp <;> omega⟩
        · as_aux_lemma =>
          have q0 : (kd == 0) = false := by rw [beq_eq_false_iff_ne]; omega
          go_upto_region 21 with fail
          go_cut [86] from 87 to 199 (fun s wx => s = .bool (kd == 1) ∧ wA = wx)
          case first =>
            go_wp2_with fail
            go_meet
            case rel => exact ⟨rfl, rfl⟩
          case rest =>
          obtain ⟨rfl, rfl⟩ := hcut
          go_upto_if 86 with fail
          go_cut [86] from 87 to 199 (fun s wx => s = .bool true ∧ wA = wx)
          case first =>
            rcases h14 with rfl | rfl
            · go_wp2_with fail
              go_meet
              case rel => exact ⟨rfl, rfl⟩
            · go_wp2_with fail
              go_meet
              case rel => exact ⟨rfl, rfl⟩
          case rest =>
          obtain ⟨rfl, rfl⟩ := hcut
          obtain ⟨b5, l', hb, hcu, hl', ll'⟩ : ∃ (b5 : Bool) (l' : List Int), decide (0 ≤ r) = b5 ∧ cutI l x = (b5, l') ∧ ((x ∉ l ∧ r = -1 ∧ l' = l) ∨ ∃ i : Nat, FirstAt l x i ∧ r = i ∧ l' = l.erase x) ∧ l'.length ≤ k := by
            rcases hr with ⟨hn, e⟩ | ⟨i, hi, e⟩
            · exact ⟨false, l, by rw [e]; rfl, by unfold cutI; rw [if_neg hn], .inl ⟨hn, e, rfl⟩, ll⟩
            · exact ⟨true, l.erase x, by rw [e]; exact decide_eq_true (by omega), by unfold cutI; rw [if_pos hi.mem], .inr ⟨i, hi, e, rfl⟩, Nat.le_trans erase_len ll⟩
          have eb : (b5 != b5) = false := by simp
          clear hr
          go_wp2_with fail
          refine (h_cut B.r (by omega) (by omega) x xb b5 l' hcu).mono ?_
          rintro e y4 ⟨rfl, S4, s4, e4, C4, k4⟩
          have hlr : wr.heap.size < y4.heap.size := Nat.lt_of_lt_of_le (lt_of_cell x0) k4.1.size
          have x0 := k4.1.cell x0 (fun h => hS0 _ h rfl)
          have B := B.step C4 k4
          have H := H.same e4
          clear C4 k4 e4 hcu
          go_upto_if 96 with fail
          go_cut [5] from 97 to 199 (fun v wx => ∃ S s, Ch3 w wx p q S s l' (4000 + 10000 * k) v l' (.slice A2 T.length c2) T (.slice A3 F.length c3) F ∧ Told s.s k T F ∧ wx.cell? ⟨wr.heap.size, 0, none⟩ = some (.int .i64 kd))
          case first =>
            rcases hl' with ⟨hn, rfl, rfl⟩ | ⟨i, hi, rfl, rfl⟩
            · obtain rfl : b5 = false := by rw [← hb]; rfl
              go_wp2_with fail
              go_meet
              case rel => exact ⟨S4, s4, B.up (by omega), H, x0⟩
            · obtain rfl : b5 = true := by rw [← hb]; exact decide_eq_true (by omega)
              have il := hi.lt
              rcases B.a1.shape with ⟨ev, el⟩ | ⟨g1, c1, ev, gB, gz, hc⟩
              · rw [el] at il; simp at il
              subst ev
              have il9 : l.length ≤ 60 := by omega
              have ho2 := B.a1
              have r0 : (0 : Int) ≤ (i : Int) := by omega
              go_wp2_with fail
              have sj : IntKind.i64.wrap ((i : Int) + 1) = (i : Int) + 1 := IntWalk.i64_in _ (by omega)
              have sj2 : (0 : Int) ≤ (i : Int) + 1 := by omega
              have sj3 : ((i : Int) + 1).toNat = i + 1 := by omega
              have sj4 : i + 1 ≤ c1 := by omega
              have sj5 : i ≤ c1 := by omega
              have sj6 : i + 1 ≤ l.length := by omega
              have sj7 : i ≤ l.length := by omega
              have sj9 : (i : Int) + 1 ≤ (l.length : Int) := by omega
              obtain ⟨ad, ead, had⟩ : ∃ ad : Addr, (if c1 = i + 1 then some ({ block := g1, off := 0 } : Addr) else some { block := g1, off := i + 1 }) = some ad ∧ (¬ c1 = i + 1 → ad = ⟨g1, i + 1, none⟩) := by
                by_cases hc : c1 = i + 1
                · exact ⟨⟨g1, 0, none⟩, by rw [if_pos hc], fun h => absurd hc h⟩
                · exact ⟨⟨g1, i + 1, none⟩, by rw [if_neg hc], fun _ => rfl⟩
              have kc : Keep (fun j => y4.heap.size ≤ j) y4 y4.drew := (Keep.refl _ _).drew
              refine wp_region_held_drew (S := (fun _ => True)) (by kernel_rfl) trivial (fun hHeld => ?_)
              generalize y4.drew = Z at kc ⊢
              obtain ⟨M, eM⟩ : ∃ M, y4.heap.size = M := ⟨_, rfl⟩
              rw [eM] at kc gz
              have sc : M ≤ Z.heap.size := by rw [← eM]; exact kc.size
              have tw : ∀ (W : World), Keep (fun j => M ≤ j) y4 W → ∀ t, t < (l.take i).length → W.cell? ((⟨g1, 0, none⟩ : Addr).add t) = some (.int .u64 ((l.take i).getD t 0)) := fun W kw => take_at ho2 (fun t u h => kw.cell h (by show ¬ M ≤ g1; omega)) i
              have dw : ∀ (W : World), Keep (fun j => M ≤ j) y4 W → ∀ t, t < (l.drop (i + 1)).length → W.cell? (ad.add t) = some (.int .u64 ((l.drop (i + 1)).getD t 0)) := fun W kw => drop_at ho2 (fun t u h => kw.cell h (by show ¬ M ≤ g1; omega)) (i + 1) had (by omega)
              have tl : (l.take i).length = i := by rw [List.length_take]; omega
              have dl : (l.drop (i + 1)).length = l.length - (i + 1) := by rw [List.length_drop]
              obtain ⟨N1, hN1⟩ : ∃ N1, i + (l.length - (i + 1)) = N1 := ⟨_, rfl⟩
              have tN : (l.take i ++ l.drop (i + 1)).length = N1 := by rw [List.length_append, tl, dl]; exact hN1
              refine wpAnyH_take (i := 1) (v := ?qvsa1) rfl (by kernel_rfl) (by kernel_rfl) (by kernel_rfl) (fun _ _ _ h => h) (Or.inl ⟨by rfl, ?qysa1⟩) (by assumption) ?qrsa1; case qysa1 => ((intro w hSw; (try dsimp only at hSw); go_simp); try (with_reducible rfl))
              ((try simp only [List.getElem_toArray]); (try simp only [List.getElem_cons_succ]); (try simp only [List.getElem_cons_zero]); (try simp only [Act.put]); (try simp only [List.setIfInBounds_toArray]); (try simp only [List.set_cons_succ]); (try simp only [List.set_cons_zero]))
              refine wpAnyH_take (i := 2) (v := ?qvsa2) rfl (by kernel_rfl) (by kernel_rfl) (by kernel_rfl) (fun _ _ _ h => h) (Or.inl ⟨by rfl, ?qysa2⟩) (by assumption) ?qrsa2; case qysa2 => ((intro w hSw; (try dsimp only at hSw); go_simp); try (with_reducible rfl))
              ((try simp only [List.getElem_toArray]); (try simp only [List.getElem_cons_succ]); (try simp only [List.getElem_cons_zero]); (try simp only [Act.put]); (try simp only [List.setIfInBounds_toArray]); (try simp only [List.set_cons_succ]); (try simp only [List.set_cons_zero]))
              refine wpAnyH_take (i := 3) (v := ?qvsa3) rfl (by kernel_rfl) (by kernel_rfl) (by kernel_rfl) (fun _ _ _ h => h) (Or.inl ⟨by rfl, ?qysa3⟩) (by assumption) ?qrsa3; case qysa3 => ((intro w hSw; (try dsimp only at hSw); go_simp); try (with_reducible rfl))
              ((try simp only [List.getElem_toArray]); (try simp only [List.getElem_cons_succ]); (try simp only [List.getElem_cons_zero]); (try simp only [Act.put]); (try simp only [List.setIfInBounds_toArray]); (try simp only [List.set_cons_succ]); (try simp only [List.set_cons_zero]))
              refine wpAnyH_take (i := 5) (v := ?qvsa5) rfl (by kernel_rfl) (by kernel_rfl) (by kernel_rfl) (fun _ _ _ h => h) (Or.inl ⟨by rfl, ?qysa5⟩) (by assumption) ?qrsa5; case qysa5 => ((intro w hSw; (try dsimp only at hSw); go_simp); try (with_reducible rfl))
              ((try simp only [List.getElem_toArray]); (try simp only [List.getElem_cons_succ]); (try simp only [List.getElem_cons_zero]); (try simp only [Act.put]); (try simp only [List.setIfInBounds_toArray]); (try simp only [List.set_cons_succ]); (try simp only [List.set_cons_zero]))
              refine wpAnyH_take (i := 6) (v := ?qvsa6) rfl (by kernel_rfl) (by kernel_rfl) (by kernel_rfl) (fun _ _ _ h => h) (Or.inl ⟨by rfl, ?qysa6⟩) (by assumption) ?qrsa6; case qysa6 => ((intro w hSw; (try dsimp only at hSw); go_simp); try (with_reducible rfl))
              ((try simp only [List.getElem_toArray]); (try simp only [List.getElem_cons_succ]); (try simp only [List.getElem_cons_zero]); (try simp only [Act.put]); (try simp only [List.setIfInBounds_toArray]); (try simp only [List.set_cons_succ]); (try simp only [List.set_cons_zero]))
              refine wpAnyH_take (i := 7) (v := ?qvsa7) rfl (by kernel_rfl) (by kernel_rfl) (by kernel_rfl) (fun _ _ _ h => h) (Or.inl ⟨by rfl, ?qysa7⟩) (by assumption) ?qrsa7; case qysa7 => ((intro w hSw; (try dsimp only at hSw); go_simp); try (with_reducible rfl))
              ((try simp only [List.getElem_toArray]); (try simp only [List.getElem_cons_succ]); (try simp only [List.getElem_cons_zero]); (try simp only [Act.put]); (try simp only [List.setIfInBounds_toArray]); (try simp only [List.set_cons_succ]); (try simp only [List.set_cons_zero]))
              refine wpAnyH_take (i := 8) (v := ?qvsa8) rfl (by kernel_rfl) (by kernel_rfl) (by kernel_rfl) (fun _ _ _ h => h) (Or.inl ⟨by rfl, ?qysa8⟩) (by assumption) ?qrsa8; case qysa8 => ((intro w hSw; (try dsimp only at hSw); go_simp); try (with_reducible rfl))
              ((try simp only [List.getElem_toArray]); (try simp only [List.getElem_cons_succ]); (try simp only [List.getElem_cons_zero]); (try simp only [Act.put]); (try simp only [List.setIfInBounds_toArray]); (try simp only [List.set_cons_succ]); (try simp only [List.set_cons_zero]))
              refine wpAnyH_ready (rs := [0]) (by kernel_rfl) (by simp) ?_
              refine AllReadyH.cons rfl (fun K hK => ?_) AllReadyH.nil
              go_simp
              refine hK.out _ _ trivial (fun hHeld => ?_)
              clear hK K
              obtain ⟨Y, eX, oC, kE, lE⟩ := emp_own Z sc
              rw [eX]
              clear eX
              obtain ⟨gC, hgC⟩ : ∃ g, Z.heap.size = g := ⟨_, rfl⟩
              rw [hgC] at oC ⊢
              have kc := kc.trans (kE.mono (T := fun j => M ≤ j) (fun _ h => h.elim))
              have sc : M ≤ Y.heap.size := by omega
              ((try simp only [List.getElem_toArray]); (try simp only [List.getElem_cons_succ]); (try simp only [List.getElem_cons_zero]); (try simp only [Act.put]); (try simp only [List.setIfInBounds_toArray]); (try simp only [List.set_cons_succ]); (try simp only [List.set_cons_zero]))
              refine wpAnyH_ready (rs := [4]) (by kernel_rfl) (by simp) ?_
              refine AllReadyH.cons rfl (fun K hK => ?_) AllReadyH.nil
              refine step_apps rfl (.tmp 97) (.tmp 100) rfl M sc gC 0 0 [] rfl rfl oC ⟨g1, 0, none⟩ i c1 (l.take i) rfl tl (tw _ kc) (by simp) (by omega) ?_
              intro g6 c6 w6 oN kN dN
              have hC := (OwnU.lt (g := gC) oC rfl).1
              rw [List.nil_append] at oN
              rw [Nat.zero_add] at oN ⊢
              have kc := kc.trans (kN.mono (T := fun j => M ≤ j) (fun j hj => by omega))
              have sc : M ≤ w6.heap.size := Nat.le_trans sc kN.size
              clear oC kN dN hC
              have oC := oN
              clear oN
              refine hK.out _ _ trivial (fun hHeld => ?_)
              clear hK K
              ((try simp only [List.getElem_toArray]); (try simp only [List.getElem_cons_succ]); (try simp only [List.getElem_cons_zero]); (try simp only [Act.put]); (try simp only [List.setIfInBounds_toArray]); (try simp only [List.set_cons_succ]); (try simp only [List.set_cons_zero]))
              refine wpAnyH_ready (rs := [9]) (by kernel_rfl) (by simp) ?_
              refine AllReadyH.cons rfl (fun K hK => ?_) AllReadyH.nil
              refine step_apps rfl (.tmp 101) (.tmp 105) rfl M sc g6 i c6 (l.take i) rfl tl oC ad (l.length - (i + 1)) (c1 - (i + 1)) (l.drop (i + 1)) rfl dl (dw _ kc) (by omega) (by omega) ?_
              intro g11 c11 w7 oN kN dN
              have hC := (OwnU.lt (g := g6) oC rfl).1
              rw [hN1] at oN ⊢
              have kc := kc.trans (kN.mono (T := fun j => M ≤ j) (fun j hj => by omega))
              have sc : M ≤ w7.heap.size := Nat.le_trans sc kN.size
              clear oC kN dN hC
              refine hK.out _ _ trivial (fun hHeld => ?_)
              clear hK K
              ((try simp only [List.getElem_toArray]); (try simp only [List.getElem_cons_succ]); (try simp only [List.getElem_cons_zero]); (try simp only [Act.put]); (try simp only [List.setIfInBounds_toArray]); (try simp only [List.set_cons_succ]); (try simp only [List.set_cons_zero]))
              refine wpAnyH_take (i := 10) (v := ?qvsa10) rfl (by kernel_rfl) (by kernel_rfl) (by kernel_rfl) (fun _ _ _ h => h) (Or.inl ⟨by rfl, ?qysa10⟩) (by assumption) ?qrsa10; case qysa10 => ((intro w hSw; (try dsimp only at hSw); go_simp); try (with_reducible rfl))
              ((try simp only [List.getElem_toArray]); (try simp only [List.getElem_cons_succ]); (try simp only [List.getElem_cons_zero]); (try simp only [Act.put]); (try simp only [List.setIfInBounds_toArray]); (try simp only [List.set_cons_succ]); (try simp only [List.set_cons_zero]))
              refine wpAnyH_done (by kernel_rfl) ?_ _
              have x0 := kc.cell x0 (by show ¬ M ≤ wr.heap.size; omega)
              have B := B.anew (oN.lower (by have := B.r.b.size; omega)) kc (fun j hj => .inr (by rw [eM]; exact hj)) (fun j hj => .inr (by rw [eM]; exact (OwnU.lt oN hj).1))
              rw [← erase_first hi.lt hi.eq hi.no] at B
              clear tw dw oN
              go_wp2_with fail
              go_meet
              case rel => exact ⟨_, _, B.up (by omega), H, x0⟩
          case rest =>
          obtain ⟨S5, s5, B, H, x0⟩ := hcut
          rcases h14 with rfl | rfl
          · go_wp2_with fail
            go_meet
            case rel => exact ⟨S5, s5, l', T, F, B.up (by omega), H.later (by omega), by omega⟩
          · rcases first_or x T with hT | ⟨j, hT⟩
            · go_wp2_with fail
              refine (at_loop B.a2 (by omega) x (-1) (.inl ⟨hT, rfl⟩)).mono ?_
              rintro e y6 ⟨rfl, rfl⟩
              have hps : pushI s5.s l' x = (false, l') := by unfold pushI; rw [if_neg (by rw [H.dead (fun h => absurd h hT)]; simp)]
              go_wp2_with fail
              refine (h_push B.r (by omega) (by omega) x xb _ _ hps).mono ?_
              rintro e y7 ⟨rfl, S7, s7, e7, C7, k7⟩
              have B := B.step C7 k7
              have H := H.same e7
              clear C7 k7 hps
              go_wp2_with fail
              go_meet
              case rel => exact ⟨S7, s7, l', T, F, B.up (by omega), H.later (by omega), by omega⟩
            · have d1 : decide ((j : Int) < 0) = false := decide_eq_false (by omega)
              go_wp2_with fail
              refine (at_loop B.a2 (by omega) x j (.inr ⟨j, hT, rfl⟩)).mono ?_
              rintro e y6 ⟨rfl, rfl⟩
              go_wp2_with fail
              go_meet
              case rel => exact ⟨S5, s5, l', T, F, B.up (by omega), H.later (by omega), by omega⟩
        · as_aux_lemma =>
          rcases hr with ⟨hn, rfl⟩ | ⟨i, hi, rfl⟩
          · rcases first_or x T with hT | ⟨j, hT⟩
            · go_wp2_with fail
              refine (at_loop B.a2 (by omega) x (-1) (.inl ⟨hT, rfl⟩)).mono ?_
              rintro e y4 ⟨rfl, rfl⟩
              go_wp2_with fail
              go_meet
              case rel => exact ⟨S, s, l, T, F, B.up (by omega), H.later (by omega), by omega⟩
            · have d1 : decide ((0 : Int) ≤ (j : Int)) = true := decide_eq_true (by omega)
              rcases first_or x F with hF | ⟨m, hF⟩
              · obtain ⟨s', hfr, hd, H'⟩ := H.free B.r.ok (by omega) hT.mem hF
                go_wp2_with fail
                refine (at_loop B.a2 (by omega) x j (.inr ⟨j, hT, rfl⟩)).mono ?_
                rintro e y4 ⟨rfl, rfl⟩
                go_wp2_with fail
                refine (at_loop B.a3 (by omega) x (-1) (.inl ⟨hF, rfl⟩)).mono ?_
                rintro e y4 ⟨rfl, rfl⟩
                go_wp2_with fail
                refine (h_free B.r (by omega) x xb hn _ _ hfr).mono ?_
                rintro e y5 ⟨rfl, S5, C5, k5⟩
                have B := B.step C5 k5
                have hps : pushI s'.s l x = (false, l) := by unfold pushI; rw [if_neg (by rw [hd]; simp)]
                clear C5 k5 hfr hd
                go_wp2_with fail
                refine (h_push B.r (by omega) (by omega) x xb _ _ hps).mono ?_
                rintro e y6 ⟨rfl, S6, s6, e6, C6, k6⟩
                have B := B.step C6 k6
                have H' := H'.same e6
                clear C6 k6 hps
                go_wp2_with (with_reducible refine wp_stop 149 rfl ?_)
                intro _
                refine wp_push rfl (.tmp 146) (.tmp 148) rfl w.heap.size B.r.b.size (.slice A3 F.length c3) F rfl B.a3 x rfl (by omega) ?_
                intro g2 d2 y7 o7 k7 hg7
                have B := (B.rot.rot.push (.inr o7) k7 hg7).rot
                clear o7 k7 hg7
                go_wp2_with fail
                go_meet
                case rel => exact ⟨S6, s6, l, T, F ++ [x], B.up (by omega), H', by omega⟩
              · have d2 : decide ((m : Int) < 0) = false := decide_eq_false (by omega)
                go_wp2_with fail
                refine (at_loop B.a2 (by omega) x j (.inr ⟨j, hT, rfl⟩)).mono ?_
                rintro e y4 ⟨rfl, rfl⟩
                go_wp2_with fail
                refine (at_loop B.a3 (by omega) x m (.inr ⟨m, hF, rfl⟩)).mono ?_
                rintro e y4 ⟨rfl, rfl⟩
                go_wp2_with fail
                go_meet
                case rel => exact ⟨S, s, l, T, F, B.up (by omega), H.later (by omega), by omega⟩
          · have d1 : decide ((i : Int) < 0) = false := decide_eq_false (by omega)
            go_wp2_with fail
            go_meet
            case rel => exact ⟨S, s, l, T, F, B.up (by omega), H.later (by omega), by omega⟩
        · as_aux_lemma =>
          rcases first_or x T with hT | ⟨j, hT⟩
          · have hps : pushI s.s l x = (false, l) := by unfold pushI; rw [if_neg (by rw [H.dead (fun h => absurd h hT)]; simp)]
            go_wp2_with fail
            refine (at_loop B.a2 (by omega) x (-1) (.inl ⟨hT, rfl⟩)).mono ?_
            rintro e y4 ⟨rfl, rfl⟩
            go_wp2_with fail
            refine (h_push B.r (by omega) (by omega) x xb _ _ hps).mono ?_
            rintro e y7 ⟨rfl, S7, s7, e7, C7, k7⟩
            have B := B.step C7 k7
            have H := H.same e7
            clear C7 k7 hps
            go_wp2_with fail
            go_meet
            case rel => exact ⟨S7, s7, l, T, F, B.up (by omega), H.later (by omega), by omega⟩
          · have d1 : decide ((0 : Int) ≤ (j : Int)) = true := decide_eq_true (by omega)
            rcases hr with ⟨hn, rfl⟩ | ⟨i, hi, rfl⟩
            · rcases first_or x F with hF | ⟨m, hF⟩
              · have hps : pushI s.s l x = (true, x :: l) := by unfold pushI; rw [if_pos ⟨H.yes hT.mem hF, hn⟩]
                go_wp2_with fail
                refine (at_loop B.a2 (by omega) x j (.inr ⟨j, hT, rfl⟩)).mono ?_
                rintro e y4 ⟨rfl, rfl⟩
                go_wp2_with fail
                refine (at_loop B.a3 (by omega) x (-1) (.inl ⟨hF, rfl⟩)).mono ?_
                rintro e y4 ⟨rfl, rfl⟩
                go_wp2_with fail
                refine (h_push B.r (by omega) (by omega) x xb _ _ hps).mono ?_
                rintro e y7 ⟨rfl, S7, s7, e7, C7, k7⟩
                have B := B.step C7 k7
                have H := H.same e7
                clear C7 k7 hps
                rcases B.a1.shape with ⟨ev, el⟩ | ⟨g1, c1, ev, gB, gl, hc⟩
                · subst ev
                  subst el
                  go_wp2_with fail
                  have B := B.anew (own_lit B.r.b.size x) (Keep.alloc (Keep.refl (fun _ => False) y7) _) (fun g hg => hg.elim) (fun g hg => .inr (by simp [Value.ownBlock] at hg; omega))
                  go_meet
                  case rel => exact ⟨S7, s7, _, T, F, B.up (by omega), H.later (by omega), by simp <;> omega⟩
                · subst ev
                  have kA := Keep.alloc (Keep.refl (fun _ => False) y7) (.cells #[.int .u64 x] 27)
                  go_wp2_with (with_reducible refine wp_stop 175 rfl ?_)
                  intro _
                  refine wp_app rfl (.tmp 173) (.tmp 174) rfl y7.heap.size (by simp) (.slice (some ⟨y7.heap.size, 0, none⟩) 1 1) [x] rfl (own_lit (Nat.le_refl _) _) ⟨g1, 0, none⟩ l.length c1 l rfl rfl (all_at B.a1 (fun t u h => kA.cell h (by simp))) (by simp) (by omega) ?_
                  intro v7 y8 o7 k7
                  have kk : Keep (fun x => x = y7.heap.size) y7 y8 := (kA.mono (fun _ h => h.elim)).trans (k7.mono (fun x hx => by simp [Value.ownBlock] at hx; exact hx.symm))
                  have B := B.anew (o7.lower B.r.b.size) kk (fun x hx => .inr (by omega)) (fun x hx => .inr (OwnU.lt o7 hx).1)
                  go_wp2_with fail
                  go_meet
                  case rel => exact ⟨S7, s7, _, T, F, B.up (by omega), H.later (by omega), by simp <;> omega⟩
              · have d2 : decide ((m : Int) < 0) = false := decide_eq_false (by omega)
                have hps : pushI s.s l x = (false, l) := by unfold pushI; rw [if_neg (by rw [H.dead (fun _ => hF.mem)]; simp)]
                go_wp2_with fail
                refine (at_loop B.a2 (by omega) x j (.inr ⟨j, hT, rfl⟩)).mono ?_
                rintro e y4 ⟨rfl, rfl⟩
                go_wp2_with fail
                refine (at_loop B.a3 (by omega) x m (.inr ⟨m, hF, rfl⟩)).mono ?_
                rintro e y4 ⟨rfl, rfl⟩
                go_wp2_with fail
                refine (h_push B.r (by omega) (by omega) x xb _ _ hps).mono ?_
                rintro e y7 ⟨rfl, S7, s7, e7, C7, k7⟩
                have B := B.step C7 k7
                have H := H.same e7
                clear C7 k7 hps
                go_wp2_with fail
                go_meet
                case rel => exact ⟨S7, s7, l, T, F, B.up (by omega), H.later (by omega), by omega⟩
            · have d2 : decide ((i : Int) < 0) = false := decide_eq_false (by omega)
              have hps : pushI s.s l x = (false, l) := by unfold pushI; rw [if_neg (fun h => h.2 hi.mem)]
              go_wp2_with fail
              refine (at_loop B.a2 (by omega) x j (.inr ⟨j, hT, rfl⟩)).mono ?_
              rintro e y4 ⟨rfl, rfl⟩
              go_wp2_with fail
              refine (h_push B.r (by omega) (by omega) x xb _ _ hps).mono ?_
              rintro e y7 ⟨rfl, S7, s7, e7, C7, k7⟩
              have B := B.step C7 k7
              have H := H.same e7
              clear C7 k7 hps
              go_wp2_with fail
              go_meet
              case rel => exact ⟨S7, s7, l, T, F, B.up (by omega), H.later (by omega), by omega⟩
        · have q0 : (kd == 0) = false := by rw [beq_eq_false_iff_ne]; omega
          have q1 : (kd == 1) = false := by rw [beq_eq_false_iff_ne]; omega
          have q2 : (kd == 2) = false := by rw [beq_eq_false_iff_ne]; omega
          have q3 : (kd == 3) = false := by rw [beq_eq_false_iff_ne]; omega
          have q4 : (kd == 4) = false := by rw [beq_eq_false_iff_ne]; omega
          go_wp2_with fail
          go_meet
          case rel => exact ⟨S, s, l, T, F, B.up (by omega), H.later (by omega), by omega⟩
      case rest =>
      obtain ⟨SN, sN, lN, TN, FN, B, H, ll⟩ := hcut
      obtain ⟨A1, c1, e1, hA0, hA1⟩ := OwnU.out B.a1
      subst e1
      obtain ⟨A2, c2, e2, _, _⟩ := OwnU.out B.a2
      subst e2
      obtain ⟨A3, c3, e3, _, _⟩ := OwnU.out B.a3
      subst e3
      obtain ⟨hd, ehd⟩ : ∃ h, lN.headD 0 = h := ⟨_, rfl⟩
      go_upto_if 178 with fail
      go_cut [15] from 179 to 199 (fun v wx => v = .int .u64 hd ∧ Ch3 w wx p q SN sN lN (7000 + 10000 * k) (.slice A1 lN.length c1) lN (.slice A2 TN.length c2) TN (.slice A3 FN.length c3) FN)
      case first =>
        by_cases hz : 0 < lN.length
        · cases A1 with
          | none => exact absurd (hA0 rfl) (by intro e; rw [e] at hz; simp at hz)
          | some ad =>
            obtain ⟨ga, rfl⟩ := hA1 _ rfl
            have cj := OwnU.cell B.a1 0 hz
            have e0 : lN.getD 0 0 = hd := by rw [← ehd]; cases lN <;> rfl
            rw [e0] at cj
            clear e0 ehd
            go_wp2_with fail
            go_meet
            case rel => exact ⟨rfl, B⟩
        · obtain rfl : hd = 0 := by rw [← ehd]; cases lN; rfl; simp at hz
          clear ehd
          go_wp2_with fail
          go_meet
          case rel => exact ⟨rfl, B⟩
      case rest =>
      obtain ⟨rfl, B⟩ := hcut
      go_wp2_with fail
      refine (h_links B.r (by omega) (by omega)).mono ?_
      rintro e z1 ⟨vl, S1', s1', rfl, o1, d1, e1, C1, k1⟩
      have B := B.step C1 k1
      have H := H.same e1
      clear C1 k1
      go_wp2_with fail
      refine (same_own o1 B.a1 (by omega)).mono ?_
      rintro e z2 ⟨rfl, dd, rfl⟩
      have B := B.quiet (drewN_keep _ _ dd)
      clear o1 d1
      go_wp2_with fail
      refine (h_len B.r (by omega) (by omega) (lN.length : Int) rfl).mono ?_
      rintro e z3 ⟨rfl, S3, s3, e3, C3, k3⟩
      have B := B.step C3 k3
      have H := H.same e3
      clear C3 k3
      go_wp2_with fail
      refine (h_head B.r (by omega) (by omega) hd ehd).mono ?_
      rintro e z4 ⟨rfl, S4, s4, e4, C4, k4⟩
      have B := B.step C4 k4
      have H := H.same e4
      clear C4 k4
      go_wp2_with fail
      go_roundg (len0 - (k + 1))
      case measure => omega
      case rel => exact ⟨k + 1, by omega, S4, s4, lN, TN, FN, by omega, by omega, by go_num, B.up (by omega), H, ll⟩
    · rcases (by omega : (k = 60 ∧ k < len0) ∨ k = len0) with ⟨rfl, hl⟩ | rfl
      all_goals
        go_wp2_with fail
        go_ret
        exact ⟨rfl, B.r.b⟩
theorem own : ownKnob Try.prog.godebug = none := by kernel_rfl
theorem laidOut : laidOutB Try.prog = true := by kernel_rfl
set_option maxRecDepth 100000 in
theorem lifted (os : Os) (started : os.Started) (H : Type) (enc : TypeId × Value → H) :
    ReturnsInHanded {} Try.checked os 4 .any (Rows.chainPlaysSpec.pre6 enc Try.prog Try.f4 Rows.chainPlaysRow.domain false) (Rows.chainPlaysSpec.post enc Try.prog Try.f4 false true false false) := by
  refine returnsInHanded_of_change (C := Try.checked) own started (by kernel_rfl) Try.func4
    (ChangeSpec.witness6 (enc := enc) (C := Try.checked) false ⟨#[], #[.slice none 0 0], []⟩ 8 (by kernel_rfl) (by kernel_rfl) (by kernel_rfl) (by kernel_rfl)) ?_
  intro W base args ds gs before hval0 hW hcnd _
  have hval : ∀ (j : Nat) t v, Try.f4.params[j]? = some t → args[j]? = some v → Value.okWide Try.prog W .any base t v := hval0
  have hW' := hW
  obtain ⟨p, q, hA0, hV, rfl, hfz, hnd⟩ := hW
  have hA : DataW.TrodAll enc Try.prog W 0 (fun _ => true) true Try.f4.params.toList args.toList ds p := hA0
  rw [Try.params4] at hA hval
  obtain ⟨v0, vs0, d0, ds0, p0, q0, hargs, rfl, rfl, h0, r0⟩ := trodAll_cons hA
  obtain ⟨rfl, rfl, rfl⟩ := trodAll_nil r0
  obtain rfl : args = #[v0] := by cases args; simp_all
  obtain ⟨rfl, rfl⟩ := trodVars_none hV
  obtain ⟨a0, len0, cap0, rfl⟩ := okWide_slice Try.underlying38 (hval 0 38 v0 rfl rfl)
  have k0 := h0
  have lt0 : ∀ x ∈ p0, x.block < W.heap.size := by obtain ⟨m, hm⟩ := k0; exact DataW.trod_lt m _ _ _ hm
  obtain ⟨z0, w0⟩ : ∃ f, IsOps W a0 len0 cap0 f := is_ops h0
  clear hA0 hval0
  refine (walk a0 len0 cap0 z0 W w0).mono fun e W' ⟨he, bel⟩ => ?_
  subst he
  exact ⟨_, rfl, _, _, _, [], _, [], hW', trodAll_mk1 (shut_bool Try.underlying4 _), (trodAll_cons_mk (Below.trod laidOut (by kernel_rfl) (of_decide_eq_true (by kernel_rfl)) k0 bel lt0) trodAll_mk0), rfl, bel.frame _, fun h => by cases h⟩
theorem over : Rows.chainPlaysRow.holds Try.pinned (OpenSpec.ofChange Rows.chainPlaysSpec) :=
  OpenClaim.holds_of_wide 4 Try.f4 rfl rfl rfl rfl rfl rfl rfl ⟨rfl, rfl, rfl, rfl, rfl⟩ rfl rfl rfl rfl rfl (by kernel_rfl) Try.func4 (by kernel_rfl)
    (of_decide_eq_true (by kernel_rfl)) (by unfold Func.isWrapper; first | (rw [if_pos (by decide +kernel)]; kernel_rfl) | (rw [if_neg (by decide +kernel)]; exact ⟨rfl, rfl⟩))
    (fun os started H enc _ => lifted os started H enc)
theorem proved : Rows.ChainPlaysSaid := over
#print axioms proved
end Go.Proofs.Ytagboodnbgpnkaa.chainPlays
