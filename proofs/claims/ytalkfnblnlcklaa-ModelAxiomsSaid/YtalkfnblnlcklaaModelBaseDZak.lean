/- Several texts, one behind the other: AxX, SmA. -/
import Derived.Test.YtalkfnblnlcklaaModelBaseDZaj
import Derived.Test.YtalkfnblnlcklaaModelBaseDZai
import Derived.Deep.RegionHeld3
/- vinculumref20's Writers. Condition: Deals that are not too many. -/
namespace Go.Proofs.Ytalkfnblnlcklaa
open Go.ChangeShapes Go.WideShapes Go.ChangeAt Go.RowKit
set_option linter.unusedVariables false
set_option linter.unusedSimpArgs false
def clashP (x y : DlI) : Bool := x.ops.any fun c => writesI c && wroteI c.1.key y.ops
def pairP (ds : List DlI) (i k : Nat) : Bool := match ds[i]?, ds[k]? with
 | some x, some y => decide (x.state ≠ 3) || decide (y.state ≠ 3) || decide (x.stop ≤ y.start) || decide (y.stop ≤ x.start) || !(clashP x y)
 | _, _ => true
def writersP (ds : List DlI) : Bool := (List.range ds.length).all fun i => (List.range i).all fun k => pairP ds i k
def W1K (ds : List DlI) (w : World) (i : Value) (wr : World) : Prop := ∃ a : Nat, a ≤ ds.length ∧ i = .int .i64 a ∧ Keep (fun _ => False) w wr ∧ ∀ i k, k < i → i < a → pairP ds i k = true
def W2K (ds : List DlI) (a : Nat) (w : World) (i : Value) (wr : World) : Prop := ∃ b : Nat, b ≤ a ∧ i = .int .i64 b ∧ Keep (fun _ => False) w wr ∧ ∀ k, k < b → pairP ds a k = true
def W3K (xs ys : List (OpI × ReI)) (w : World) (i : Value) (wr : World) : Prop := ∃ c : Nat, c ≤ xs.length ∧ i = .int .i64 c ∧ Keep (fun _ => False) w wr ∧ ∀ (j : Nat) (z : OpI × ReI), j < c → xs[j]? = some z → (writesI z && wroteI z.1.key ys) = false
section
variable {w w' : World} {v : Value} {ds : List DlI}
theorem writersP_of (h : ∀ i k, k < i → i < ds.length → pairP ds i k = true) : writersP ds = true := by
 unfold writersP
 rw [List.all_eq_true]
 intro i hi
 rw [List.all_eq_true]
 intro k hk
 exact h i k (List.mem_range.1 hk) (List.mem_range.1 hi)
theorem writersP_not {i k : Nat} (hk : k < i) (hi : i < ds.length) (h : pairP ds i k = false) : writersP ds = false := by
  cases c : writersP ds with
  | false => rfl
  | true =>
    unfold writersP at c
    rw [List.all_eq_true] at c
    have := c i (List.mem_range.2 hi)
    rw [List.all_eq_true] at this
    have := this k (List.mem_range.2 hk)
    rw [h] at this
    cases this
theorem pair_at {x y : DlI} {i k : Nat} (hx : ds[i]? = some x) (hy : ds[k]? = some y) : pairP ds i k = (decide (x.state ≠ 3) || decide (y.state ≠ 3) || decide (x.stop ≤ y.start) || decide (y.stop ≤ x.start) || !(clashP x y)) := by
 unfold pairP
 rw [hx, hy]
theorem clash_of {x y : DlI} (h : ∀ (j : Nat) (z : OpI × ReI), j < x.ops.length → x.ops[j]? = some z → (writesI z && wroteI z.1.key y.ops) = false) : clashP x y = false := by
 unfold clashP
 rw [List.any_eq_false]
 intro z hz
 obtain ⟨j, hj⟩ := List.mem_iff_getElem?.1 hz
 rw [h j z (List.getElem?_eq_some_iff.1 hj).1 hj]
 simp
theorem clash_yes {x y : DlI} {j : Nat} {z : OpI × ReI} (hz : x.ops[j]? = some z) (h : (writesI z && wroteI z.1.key y.ops) = true) : clashP x y = true := by
 unfold clashP
 rw [List.any_eq_true]
 exact ⟨z, List.mem_of_getElem? hz, h⟩
theorem keepC {w w1 : World} {p : Addr} {u : Value} (k : Keep (fun _ => False) w w1) (h : w.cell? p = some u) : w1.cell? p = some u := k.cell h id
set_option maxRecDepth 100000 in
set_option maxHeartbeats 8000000 in
theorem writers_any (h : DealsIn w v ds) (hb : DlB ds) (R : Bool) (hR : writersP ds = R) :
    Calls Try.prog 11 #[v] w fun e w' => e = .returned (.bool R) ∧ Keep (fun _ => False) w w' := by
  obtain ⟨A, c, rfl, hc, hm, hf⟩ := h.form
  have OL := Lib.hid (fun (x : DlI) (hx : x ∈ ds) => (show x.ops.length ≤ 24000 from Nat.le_trans (mem_sum (List.mem_map.2 ⟨x, hx, rfl⟩)) hb.o))
  have nb := hb.n
  obtain ⟨n, hn⟩ : ∃ n, ds.length = n := ⟨_, rfl⟩
  rw [hn] at hc hf nb ⊢
  have HF := Lib.hid hf
  have HN := Lib.hid hn
  have HR := Lib.hid hR
  clear h hb hf hn hR
  go_enter Try.func11, Try.ntmps11
  go_wp2
  go_loopw [3] (W1K ds w) (fun i _ => n - (intOf i).toNat)
  case atStart => exact ⟨0, Nat.zero_le _, rfl, Keep.refl _ _, fun i k _ h => absurd h (Nat.not_lt_zero _)⟩
  case round =>
    obtain ⟨a, ha, rfl, ka, pa⟩ := hrel
    rw [HN.out] at ha
    have KA := Lib.hid ka
    have PA := Lib.hid pa
    clear ka pa
    by_cases hlt : a < n
    · obtain ⟨x, hx⟩ : ∃ x, ds[a]? = some x := ⟨_, List.getElem?_eq_getElem (by rw [HN.out]; exact hlt)⟩
      obtain ⟨b, off, rfl, hcc⟩ := HF.out (by omega)
      obtain ⟨A2, c2, L2, d0, d1, d2, d3, d4, d5⟩ := hcc a x hx
      have wa : IntKind.i64.wrap ((a : Int) + 1) = (a : Int) + 1 := IntWalk.i64_in _ (by omega)
      have xo := OL.out x (List.mem_of_getElem? hx)
      have HX := Lib.hid hx
      have HCC := Lib.hid hcc
      have LX := Lib.hid L2
      have D2 := Lib.hid d2
      have D3 := Lib.hid d3
      have D4 := Lib.hid d4
      have D5 := Lib.hid d5
      clear hx hcc L2 d0 d1 d2 d3 d4 d5
      go_wp2
      go_loopw [4] (W2K ds a w) (fun i _ => a - (intOf i).toNat)
      case atStart => exact ⟨0, Nat.zero_le _, rfl, KA.out, fun k h => absurd h (Nat.not_lt_zero _)⟩
      case round =>
        obtain ⟨b2, hb2, rfl, kb, pb⟩ := hrel
        have KB := Lib.hid kb
        have PB := Lib.hid pb
        clear kb pb
        by_cases hlb : b2 < a
        · obtain ⟨y, hy⟩ : ∃ y, ds[b2]? = some y := ⟨_, List.getElem?_eq_getElem (by rw [HN.out]; omega)⟩
          obtain ⟨Ay, cy, Ly, f0, f1, f2, f3, f4, f5⟩ := HCC.out b2 y hy
          have wb : IntKind.i64.wrap ((b2 : Int) + 1) = (b2 : Int) + 1 := IntWalk.i64_in _ (by omega)
          have yo := OL.out y (List.mem_of_getElem? hy)
          have PE := Lib.hid (pair_at HX.out hy)
          have LY := Lib.hid Ly
          have F0 := Lib.hid f0
          have F1 := Lib.hid f1
          have F2 := Lib.hid f2
          have F3 := Lib.hid f3
          have F4 := Lib.hid f4
          have F5 := Lib.hid f5
          have NX := Lib.hid (fun (q : pairP ds a b2 = true) => (show ∀ k, k < b2 + 1 → pairP ds a k = true from fun k hk => by
            by_cases e : k = b2
            · rw [e]; exact q
            · exact PB.out k (by omega)))
          have e2 := KB.out.cell D2.out id
          have e3 := KB.out.cell D3.out id
          have e4 := KB.out.cell D4.out id
          have e5 := KB.out.cell D5.out id
          have g2 := KB.out.cell f2 id
          have g3 := KB.out.cell f3 id
          have g4 := KB.out.cell f4 id
          clear hy Ly f0 f1 f5
          by_cases s1 : x.state = 3
          · have n1 : (x.state != 3) = false := by simpa using s1
            by_cases s2 : y.state = 3
            · have n2 : (y.state != 3) = false := by simpa using s2
              by_cases s3 : x.stop ≤ y.start
              · have n3 : decide (x.stop ≤ y.start) = true := decide_eq_true s3
                have QQ := Lib.hid (NX.out (by rw [PE.out]; simp [s3]))
                clear s1 s2 s3
                go_wp2_with fail; go_quiet (fail); go_wp2; first | exact ⟨⟨b2 + 1, by omega, by go_num, KB.out.trans (drewN_keep _ _ nq), QQ.out⟩, by simp [intOf]; omega⟩ | (refine ⟨?rel2, ?meas2⟩; (case meas2 => (simp [intOf]; omega)); (case rel2 => ((repeat apply Exists.intro); exact ⟨⟨b2 + 1, by omega, by go_num, KB.out.trans (drewN_keep _ _ nq), QQ.out⟩, rfl⟩)))
              · have n3 : decide (x.stop ≤ y.start) = false := decide_eq_false s3
                by_cases s4 : y.stop ≤ x.start
                · have n4 : decide (y.stop ≤ x.start) = true := decide_eq_true s4
                  have QQ := Lib.hid (NX.out (by rw [PE.out]; simp [s4]))
                  clear s1 s2 s3 s4
                  go_wp2_with fail; go_quiet (fail); go_wp2; first | exact ⟨⟨b2 + 1, by omega, by go_num, KB.out.trans (drewN_keep _ _ nq), QQ.out⟩, by simp [intOf]; omega⟩ | (refine ⟨?rel2, ?meas2⟩; (case meas2 => (simp [intOf]; omega)); (case rel2 => ((repeat apply Exists.intro); exact ⟨⟨b2 + 1, by omega, by go_num, KB.out.trans (drewN_keep _ _ nq), QQ.out⟩, rfl⟩)))
                · have n4 : decide (y.stop ≤ x.start) = false := decide_eq_false s4
                  have PEQ := Lib.hid (show pairP ds a b2 = !(clashP x y) by rw [PE.out]; simp [s1, s2, s3, s4])
                  clear s1 s2 s3 s4
                  go_wp2_with fail
                  go_quiet (fail)
                  go_wp2
                  have KB2 := Lib.hid (KB.out.trans (drewN_keep (fun _ => False) wr nq))
                  have NW := Lib.hid (show Keep (fun _ => False) wr (wr.drewN nq) from drewN_keep _ _ nq)
                  obtain ⟨Wq, eWq⟩ : ∃ Wq, wr.drewN nq = Wq := ⟨_, rfl⟩
                  rw [eWq] at KB2 NW ⊢
                  clear eWq n1 n2 n3 n4 e2 e3 e4 e5 g2 g3 g4 f2 f3 f4
                  obtain ⟨m, hm2⟩ : ∃ m, x.ops.length = m := ⟨_, rfl⟩
                  have HM := Lib.hid hm2
                  have xo2 : m ≤ 24000 := by rw [← hm2]; exact xo
                  have D5 := Lib.hid (show w.cell? ⟨b, off + a * 6 + 5, none⟩ = some (.slice A2 m c2) by rw [← hm2]; exact D5.out)
                  go_loopw [5] (W3K x.ops y.ops w) (fun i _ => m - (intOf i).toNat)
                  case atStart => exact ⟨0, Nat.zero_le _, rfl, KB2.out, fun j z h => absurd h (Nat.not_lt_zero _)⟩
                  case round =>
                    obtain ⟨q, hq, rfl, kq, pq⟩ := hrel
                    rw [HM.out] at hq
                    have KQ := Lib.hid kq
                    have PQ := Lib.hid pq
                    have q5 := kq.cell D5.out id
                    clear kq pq
                    by_cases hqm : q < m
                    · obtain ⟨z, hz⟩ : ∃ z, x.ops[q]? = some z := ⟨_, List.getElem?_eq_getElem (by rw [HM.out]; exact hqm)⟩
                      obtain ⟨A3, c3, e3, h31, h32, hF⟩ := LX.out.form
                      cases e3
                      obtain ⟨b3, off3, rfl, hcz⟩ := hF (by rw [HM.out]; omega)
                      obtain ⟨A4, c4, L4, p0, p1, p2, p3, p4, p5, p6, p7, p8⟩ := hcz q z hz
                      have wq : IntKind.i64.wrap ((q : Int) + 1) = (q : Int) + 1 := IntWalk.i64_in _ (by omega)
                      have r0 := KQ.out.cell p0 id
                      have r1 := KQ.out.cell p1 id
                      have r2 := KQ.out.cell p2 id
                      have r3 := KQ.out.cell p3 id
                      have r4 := KQ.out.cell p4 id
                      have r5 := KQ.out.cell p5 id
                      have r6 := KQ.out.cell p6 id
                      have r7 := KQ.out.cell p7 id
                      have r8 := KQ.out.cell p8 id
                      have s0 := KQ.out.cell F0.out id
                      have s1 := KQ.out.cell F1.out id
                      have s2 := KQ.out.cell F2.out id
                      have s3 := KQ.out.cell F3.out id
                      have s4 := KQ.out.cell F4.out id
                      have s5 := KQ.out.cell F5.out id
                      obtain ⟨wz, hwz⟩ : ∃ r, writesI z = r := ⟨_, rfl⟩
                      obtain ⟨rz, hrz⟩ : ∃ r, wroteI z.1.key y.ops = r := ⟨_, rfl⟩
                      have WA := fun w1 => writes_any z (A := A4) (q := z.2.pairs.length) (q' := c4) wz hwz w1
                      have WB := fun w1 (k : Keep (fun _ => False) wr w1) => wrote_any y (LY.out.keep (KQ.out.trans k)) yo z.1.key rz hrz
                      have CZ := Lib.hid (show (writesI z && wroteI z.1.key y.ops) = true → pairP ds a b2 = false from fun h => by rw [PEQ.out, clash_yes hz h]; rfl)
                      have NZ := Lib.hid (show (writesI z && wroteI z.1.key y.ops) = false → ∀ (j : Nat) (z : OpI × ReI), j < q + 1 → x.ops[j]? = some z → (writesI z && wroteI z.1.key y.ops) = false from fun h j z' hj hz' => by
                        by_cases e : j = q
                        · subst e; rw [hz] at hz'; cases hz'; exact h
                        · exact PQ.out j z' (by omega) hz')
                      rw [hwz, hrz] at CZ NZ
                      obtain ⟨my, hmy⟩ : ∃ m, y.ops.length = m := ⟨_, rfl⟩
                      rw [hmy] at s5 WB
                      unfold clV at WA
                      unfold dlV at WB
                      obtain ⟨⟨yk, yy, yh, yv⟩, ⟨re, rv, rp, ro, rr⟩⟩ := z
                      obtain ⟨y1, y2, y3, y4, y5, y6⟩ := y
                      dsimp only at WA WB r0 r1 r2 r3 r4 r5 r6 r7 r8 s0 s1 s2 s3 s4 s5
                      obtain ⟨lp, hlp⟩ : ∃ l, rp.length = l := ⟨_, rfl⟩
                      rw [hlp] at WA r6
                      have WA := Lib.hid WA
                      have WB := Lib.hid WB
                      have KR := Keep.refl (fun _ => False) wr
                      have b2n : (b2 : Int) < n := by omega
                      clear hz hcz hF L4 p0 p1 p2 p3 p4 p5 p6 p7 p8 hwz hrz hmy hlp
                      cases wz with
                      | false =>
                        go_wp2_with fail
                        refine wp_region_held_drew (S := fun w' => Keep (fun _ => False) wr w' ∧ w'.cell? ⟨b, off + a * 6 + 5, none⟩ = some (.slice (some ⟨b3, off3, none⟩) m c2) ∧ w'.cell? ⟨b3, off3 + q * 9, none⟩ = some (.int .i64 yk) ∧ w'.cell? ⟨b3, off3 + q * 9 + 1, none⟩ = some (.int .i64 yy) ∧ w'.cell? ⟨b3, off3 + q * 9 + 2, none⟩ = some (.int .i64 yh) ∧ w'.cell? ⟨b3, off3 + q * 9 + 3, none⟩ = some (.int .i64 yv) ∧ w'.cell? ⟨b3, off3 + q * 9 + 4, none⟩ = some (.int .i64 re) ∧ w'.cell? ⟨b3, off3 + q * 9 + 5, none⟩ = some (.int .i64 rv) ∧ w'.cell? ⟨b3, off3 + q * 9 + 6, none⟩ = some (.slice A4 lp c4) ∧ w'.cell? ⟨b3, off3 + q * 9 + 7, none⟩ = some (.int .i64 ro) ∧ w'.cell? ⟨b3, off3 + q * 9 + 8, none⟩ = some (.int .i64 rr) ∧ w'.cell? ⟨b, off + b2 * 6, none⟩ = some (.int .i64 y1) ∧ w'.cell? ⟨b, off + b2 * 6 + 1, none⟩ = some (.int .i64 y2) ∧ w'.cell? ⟨b, off + b2 * 6 + 2, none⟩ = some (.int .i64 y3) ∧ w'.cell? ⟨b, off + b2 * 6 + 3, none⟩ = some (.int .u64 y4) ∧ w'.cell? ⟨b, off + b2 * 6 + 4, none⟩ = some (.int .u64 y5) ∧ w'.cell? ⟨b, off + b2 * 6 + 5, none⟩ = some (.slice Ay my cy)) (by kernel_rfl) ⟨drewN_keep _ _ 1, q5, r0, r1, r2, r3, r4, r5, r6, r7, r8, s0, s1, s2, s3, s4, s5⟩ (fun hHeld => ?_)
                        refine wpAnyH_take (i := 0) (v := ?qvfa0) rfl (by kernel_rfl) (by kernel_rfl) (by kernel_rfl) (fun _ _ _ h => h) (Or.inl ⟨by rfl, ?qyfa0⟩) (by assumption) ?qrfa0; case qyfa0 => ((intro w hSw; (try dsimp only at hSw); go_simp); try (with_reducible rfl))
                        ((try simp only [List.getElem_toArray]); (try simp only [List.getElem_cons_succ]); (try simp only [List.getElem_cons_zero]); (try simp only [Act.put]); (try simp only [List.setIfInBounds_toArray]); (try simp only [List.set_cons_succ]); (try simp only [List.set_cons_zero]))
                        refine wpAnyH_take (i := 1) (v := ?qvfa1) rfl (by kernel_rfl) (by kernel_rfl) (by kernel_rfl) (fun _ _ _ h => h) (Or.inl ⟨by rfl, ?qyfa1⟩) (by assumption) ?qrfa1; case qyfa1 => ((intro w hSw; (try dsimp only at hSw); go_simp); try (with_reducible rfl))
                        ((try simp only [List.getElem_toArray]); (try simp only [List.getElem_cons_succ]); (try simp only [List.getElem_cons_zero]); (try simp only [Act.put]); (try simp only [List.setIfInBounds_toArray]); (try simp only [List.set_cons_succ]); (try simp only [List.set_cons_zero]))
                        refine wpAnyH_take (i := 2) (v := ?qvfa2) rfl (by kernel_rfl) (by kernel_rfl) (by kernel_rfl) (fun _ _ _ h => h) (Or.inl ⟨by rfl, ?qyfa2⟩) (by assumption) ?qrfa2; case qyfa2 => ((intro w hSw; (try dsimp only at hSw); go_simp); try (with_reducible rfl))
                        ((try simp only [List.getElem_toArray]); (try simp only [List.getElem_cons_succ]); (try simp only [List.getElem_cons_zero]); (try simp only [Act.put]); (try simp only [List.setIfInBounds_toArray]); (try simp only [List.set_cons_succ]); (try simp only [List.set_cons_zero]))
                        refine wpAnyH_take (i := 3) (v := ?qvfa3) rfl (by kernel_rfl) (by kernel_rfl) (by kernel_rfl) (fun _ _ _ h => h) (Or.inl ⟨by rfl, ?qyfa3⟩) (by assumption) ?qrfa3; case qyfa3 => ((intro w hSw; (try dsimp only at hSw); go_simp); try (with_reducible rfl))
                        ((try simp only [List.getElem_toArray]); (try simp only [List.getElem_cons_succ]); (try simp only [List.getElem_cons_zero]); (try simp only [Act.put]); (try simp only [List.setIfInBounds_toArray]); (try simp only [List.set_cons_succ]); (try simp only [List.set_cons_zero]))
                        refine wpAnyH_take (i := 4) (v := ?qvfa4) rfl (by kernel_rfl) (by kernel_rfl) (by kernel_rfl) (fun _ _ _ h => h) (Or.inl ⟨by rfl, ?qyfa4⟩) (by assumption) ?qrfa4; case qyfa4 => ((intro w hSw; (try dsimp only at hSw); go_simp); try (with_reducible rfl))
                        ((try simp only [List.getElem_toArray]); (try simp only [List.getElem_cons_succ]); (try simp only [List.getElem_cons_zero]); (try simp only [Act.put]); (try simp only [List.setIfInBounds_toArray]); (try simp only [List.set_cons_succ]); (try simp only [List.set_cons_zero]))
                        refine wpAnyH_take (i := 5) (v := ?qvfa5) rfl (by kernel_rfl) (by kernel_rfl) (by kernel_rfl) (fun _ _ _ h => h) (Or.inl ⟨by rfl, ?qyfa5⟩) (by assumption) ?qrfa5; case qyfa5 => ((intro w hSw; (try dsimp only at hSw); go_simp); try (with_reducible rfl))
                        ((try simp only [List.getElem_toArray]); (try simp only [List.getElem_cons_succ]); (try simp only [List.getElem_cons_zero]); (try simp only [Act.put]); (try simp only [List.setIfInBounds_toArray]); (try simp only [List.set_cons_succ]); (try simp only [List.set_cons_zero]))
                        refine wpAnyH_take (i := 6) (v := ?qvfa6) rfl (by kernel_rfl) (by kernel_rfl) (by kernel_rfl) (fun _ _ _ h => h) (Or.inl ⟨by rfl, ?qyfa6⟩) (by assumption) ?qrfa6; case qyfa6 => ((intro w hSw; (try dsimp only at hSw); go_simp); try (with_reducible rfl))
                        ((try simp only [List.getElem_toArray]); (try simp only [List.getElem_cons_succ]); (try simp only [List.getElem_cons_zero]); (try simp only [Act.put]); (try simp only [List.setIfInBounds_toArray]); (try simp only [List.set_cons_succ]); (try simp only [List.set_cons_zero]))
                        refine wpAnyH_take (i := 7) (v := ?qvfa7) rfl (by kernel_rfl) (by kernel_rfl) (by kernel_rfl) (fun _ _ _ h => h) (Or.inl ⟨by rfl, ?qyfa7⟩) (by assumption) ?qrfa7; case qyfa7 => ((intro w hSw; (try dsimp only at hSw); go_simp); try (with_reducible rfl))
                        ((try simp only [List.getElem_toArray]); (try simp only [List.getElem_cons_succ]); (try simp only [List.getElem_cons_zero]); (try simp only [Act.put]); (try simp only [List.setIfInBounds_toArray]); (try simp only [List.set_cons_succ]); (try simp only [List.set_cons_zero]))
                        refine wpAnyH_ready (rs := [8]) (by kernel_rfl) (by simp) ?_
                        refine AllReadyH.cons rfl (fun K hK => ?_) AllReadyH.nil
                        go_simp
                        go_at_call 23
                        refine (WA.out _).mono ?_
                        rintro e w3 ⟨rfl, k3⟩
                        have hH3 := hHeld.1.trans k3
                        refine hK.out _ _ ⟨hHeld.1.trans k3, keepC hH3 q5, keepC hH3 r0, keepC hH3 r1, keepC hH3 r2, keepC hH3 r3, keepC hH3 r4, keepC hH3 r5, keepC hH3 r6, keepC hH3 r7, keepC hH3 r8, keepC hH3 s0, keepC hH3 s1, keepC hH3 s2, keepC hH3 s3, keepC hH3 s4, keepC hH3 s5⟩ (fun hHeld => ?_)
                        clear hK K
                        ((try simp only [List.getElem_toArray]); (try simp only [List.getElem_cons_succ]); (try simp only [List.getElem_cons_zero]); (try simp only [Act.put]); (try simp only [List.setIfInBounds_toArray]); (try simp only [List.set_cons_succ]); (try simp only [List.set_cons_zero]))
                        refine wpAnyH_take (i := 9) (v := ?qvfa9) rfl (by kernel_rfl) (by kernel_rfl) (by kernel_rfl) (fun _ _ _ h => h) (Or.inl ⟨by rfl, ?qyfa9⟩) (by assumption) ?qrfa9; case qyfa9 => ((intro w hSw; (try dsimp only at hSw); go_simp); try (with_reducible rfl))
                        ((try simp only [List.getElem_toArray]); (try simp only [List.getElem_cons_succ]); (try simp only [List.getElem_cons_zero]); (try simp only [Act.put]); (try simp only [List.setIfInBounds_toArray]); (try simp only [List.set_cons_succ]); (try simp only [List.set_cons_zero]))
                        refine wpAnyH_take (i := 10) (v := undef) rfl (by kernel_rfl) (by kernel_rfl) (by kernel_rfl) (fun _ _ _ h => h) (Or.inr ⟨by rfl, rfl⟩) (by assumption) ?qrfs10
                        ((try simp only [List.getElem_toArray]); (try simp only [List.getElem_cons_succ]); (try simp only [List.getElem_cons_zero]); (try simp only [Act.put]); (try simp only [List.setIfInBounds_toArray]); (try simp only [List.set_cons_succ]); (try simp only [List.set_cons_zero]))
                        refine wpAnyH_take (i := 11) (v := undef) rfl (by kernel_rfl) (by kernel_rfl) (by kernel_rfl) (fun _ _ _ h => h) (Or.inr ⟨by rfl, rfl⟩) (by assumption) ?qrfs11
                        ((try simp only [List.getElem_toArray]); (try simp only [List.getElem_cons_succ]); (try simp only [List.getElem_cons_zero]); (try simp only [Act.put]); (try simp only [List.setIfInBounds_toArray]); (try simp only [List.set_cons_succ]); (try simp only [List.set_cons_zero]))
                        refine wpAnyH_take (i := 12) (v := undef) rfl (by kernel_rfl) (by kernel_rfl) (by kernel_rfl) (fun _ _ _ h => h) (Or.inr ⟨by rfl, rfl⟩) (by assumption) ?qrfs12
                        ((try simp only [List.getElem_toArray]); (try simp only [List.getElem_cons_succ]); (try simp only [List.getElem_cons_zero]); (try simp only [Act.put]); (try simp only [List.setIfInBounds_toArray]); (try simp only [List.set_cons_succ]); (try simp only [List.set_cons_zero]))
                        refine wpAnyH_take (i := 13) (v := undef) rfl (by kernel_rfl) (by kernel_rfl) (by kernel_rfl) (fun _ _ _ h => h) (Or.inr ⟨by rfl, rfl⟩) (by assumption) ?qrfs13
                        ((try simp only [List.getElem_toArray]); (try simp only [List.getElem_cons_succ]); (try simp only [List.getElem_cons_zero]); (try simp only [Act.put]); (try simp only [List.setIfInBounds_toArray]); (try simp only [List.set_cons_succ]); (try simp only [List.set_cons_zero]))
                        refine wpAnyH_take (i := 14) (v := undef) rfl (by kernel_rfl) (by kernel_rfl) (by kernel_rfl) (fun _ _ _ h => h) (Or.inr ⟨by rfl, rfl⟩) (by assumption) ?qrfs14
                        ((try simp only [List.getElem_toArray]); (try simp only [List.getElem_cons_succ]); (try simp only [List.getElem_cons_zero]); (try simp only [Act.put]); (try simp only [List.setIfInBounds_toArray]); (try simp only [List.set_cons_succ]); (try simp only [List.set_cons_zero]))
                        refine wpAnyH_take (i := 15) (v := undef) rfl (by kernel_rfl) (by kernel_rfl) (by kernel_rfl) (fun _ _ _ h => h) (Or.inr ⟨by rfl, rfl⟩) (by assumption) ?qrfs15
                        ((try simp only [List.getElem_toArray]); (try simp only [List.getElem_cons_succ]); (try simp only [List.getElem_cons_zero]); (try simp only [Act.put]); (try simp only [List.setIfInBounds_toArray]); (try simp only [List.set_cons_succ]); (try simp only [List.set_cons_zero]))
                        refine wpAnyH_take (i := 16) (v := undef) rfl (by kernel_rfl) (by kernel_rfl) (by kernel_rfl) (fun _ _ _ h => h) (Or.inr ⟨by rfl, rfl⟩) (by assumption) ?qrfs16
                        ((try simp only [List.getElem_toArray]); (try simp only [List.getElem_cons_succ]); (try simp only [List.getElem_cons_zero]); (try simp only [Act.put]); (try simp only [List.setIfInBounds_toArray]); (try simp only [List.set_cons_succ]); (try simp only [List.set_cons_zero]))
                        refine wpAnyH_take (i := 17) (v := undef) rfl (by kernel_rfl) (by kernel_rfl) (by kernel_rfl) (fun _ _ _ h => h) (Or.inr ⟨by rfl, rfl⟩) (by assumption) ?qrfs17
                        ((try simp only [List.getElem_toArray]); (try simp only [List.getElem_cons_succ]); (try simp only [List.getElem_cons_zero]); (try simp only [Act.put]); (try simp only [List.setIfInBounds_toArray]); (try simp only [List.set_cons_succ]); (try simp only [List.set_cons_zero]))
                        refine wpAnyH_take (i := 18) (v := undef) rfl (by kernel_rfl) (by kernel_rfl) (by kernel_rfl) (fun _ _ _ h => h) (Or.inr ⟨by rfl, rfl⟩) (by assumption) ?qrfs18
                        ((try simp only [List.getElem_toArray]); (try simp only [List.getElem_cons_succ]); (try simp only [List.getElem_cons_zero]); (try simp only [Act.put]); (try simp only [List.setIfInBounds_toArray]); (try simp only [List.set_cons_succ]); (try simp only [List.set_cons_zero]))
                        refine wpAnyH_take (i := 19) (v := undef) rfl (by kernel_rfl) (by kernel_rfl) (by kernel_rfl) (fun _ _ _ h => h) (Or.inr ⟨by rfl, rfl⟩) (by assumption) ?qrfs19
                        ((try simp only [List.getElem_toArray]); (try simp only [List.getElem_cons_succ]); (try simp only [List.getElem_cons_zero]); (try simp only [Act.put]); (try simp only [List.setIfInBounds_toArray]); (try simp only [List.set_cons_succ]); (try simp only [List.set_cons_zero]))
                        refine wpAnyH_take (i := 20) (v := undef) rfl (by kernel_rfl) (by kernel_rfl) (by kernel_rfl) (fun _ _ _ h => h) (Or.inr ⟨by rfl, rfl⟩) (by assumption) ?qrfs20
                        ((try simp only [List.getElem_toArray]); (try simp only [List.getElem_cons_succ]); (try simp only [List.getElem_cons_zero]); (try simp only [Act.put]); (try simp only [List.setIfInBounds_toArray]); (try simp only [List.set_cons_succ]); (try simp only [List.set_cons_zero]))
                        refine wpAnyH_take (i := 21) (v := undef) rfl (by kernel_rfl) (by kernel_rfl) (by kernel_rfl) (fun _ _ _ h => h) (Or.inr ⟨by rfl, rfl⟩) (by assumption) ?qrfs21
                        ((try simp only [List.getElem_toArray]); (try simp only [List.getElem_cons_succ]); (try simp only [List.getElem_cons_zero]); (try simp only [Act.put]); (try simp only [List.setIfInBounds_toArray]); (try simp only [List.set_cons_succ]); (try simp only [List.set_cons_zero]))
                        refine wpAnyH_take (i := 22) (v := undef) rfl (by kernel_rfl) (by kernel_rfl) (by kernel_rfl) (fun _ _ _ h => h) (Or.inr ⟨by rfl, rfl⟩) (by assumption) ?qrfs22
                        ((try simp only [List.getElem_toArray]); (try simp only [List.getElem_cons_succ]); (try simp only [List.getElem_cons_zero]); (try simp only [Act.put]); (try simp only [List.setIfInBounds_toArray]); (try simp only [List.set_cons_succ]); (try simp only [List.set_cons_zero]))
                        refine wpAnyH_take (i := 23) (v := undef) rfl (by kernel_rfl) (by kernel_rfl) (by kernel_rfl) (fun _ _ _ h => h) (Or.inr ⟨by rfl, rfl⟩) (by assumption) ?qrfs23
                        ((try simp only [List.getElem_toArray]); (try simp only [List.getElem_cons_succ]); (try simp only [List.getElem_cons_zero]); (try simp only [Act.put]); (try simp only [List.setIfInBounds_toArray]); (try simp only [List.set_cons_succ]); (try simp only [List.set_cons_zero]))
                        refine wpAnyH_take (i := 24) (v := undef) rfl (by kernel_rfl) (by kernel_rfl) (by kernel_rfl) (fun _ _ _ h => h) (Or.inr ⟨by rfl, rfl⟩) (by assumption) ?qrfs24
                        ((try simp only [List.getElem_toArray]); (try simp only [List.getElem_cons_succ]); (try simp only [List.getElem_cons_zero]); (try simp only [Act.put]); (try simp only [List.setIfInBounds_toArray]); (try simp only [List.set_cons_succ]); (try simp only [List.set_cons_zero]))
                        refine wpAnyH_take (i := 25) (v := ?qvfa25) rfl (by kernel_rfl) (by kernel_rfl) (by kernel_rfl) (fun _ _ _ h => h) (Or.inl ⟨by rfl, ?qyfa25⟩) (by assumption) ?qrfa25; case qyfa25 => ((intro w hSw; (try dsimp only at hSw); go_simp); try (with_reducible rfl))
                        ((try simp only [List.getElem_toArray]); (try simp only [List.getElem_cons_succ]); (try simp only [List.getElem_cons_zero]); (try simp only [Act.put]); (try simp only [List.setIfInBounds_toArray]); (try simp only [List.set_cons_succ]); (try simp only [List.set_cons_zero]))
                        refine wpAnyH_done (by kernel_rfl) ?_ _
                        go_wp2
                        first | exact ⟨⟨q + 1, by rw [HM.out]; omega, by go_num, KQ.out.trans hHeld.1, NZ.out rfl⟩, by simp [intOf]; omega⟩ | (refine ⟨?rel2, ?meas2⟩; (case meas2 => (simp [intOf]; omega)); (case rel2 => ((repeat apply Exists.intro); exact ⟨⟨q + 1, by rw [HM.out]; omega, by go_num, KQ.out.trans hHeld.1, NZ.out rfl⟩, rfl⟩)))
                      | true =>
                        cases rz with
                        | false =>
                          go_wp2_with fail
                          go_region_held3 (fun w' => Keep (fun _ => False) wr w' ∧ w'.cell? ⟨b, off + a * 6 + 5, none⟩ = some (.slice (some ⟨b3, off3, none⟩) m c2) ∧ w'.cell? ⟨b3, off3 + q * 9, none⟩ = some (.int .i64 yk) ∧ w'.cell? ⟨b3, off3 + q * 9 + 1, none⟩ = some (.int .i64 yy) ∧ w'.cell? ⟨b3, off3 + q * 9 + 2, none⟩ = some (.int .i64 yh) ∧ w'.cell? ⟨b3, off3 + q * 9 + 3, none⟩ = some (.int .i64 yv) ∧ w'.cell? ⟨b3, off3 + q * 9 + 4, none⟩ = some (.int .i64 re) ∧ w'.cell? ⟨b3, off3 + q * 9 + 5, none⟩ = some (.int .i64 rv) ∧ w'.cell? ⟨b3, off3 + q * 9 + 6, none⟩ = some (.slice A4 lp c4) ∧ w'.cell? ⟨b3, off3 + q * 9 + 7, none⟩ = some (.int .i64 ro) ∧ w'.cell? ⟨b3, off3 + q * 9 + 8, none⟩ = some (.int .i64 rr) ∧ w'.cell? ⟨b, off + b2 * 6, none⟩ = some (.int .i64 y1) ∧ w'.cell? ⟨b, off + b2 * 6 + 1, none⟩ = some (.int .i64 y2) ∧ w'.cell? ⟨b, off + b2 * 6 + 2, none⟩ = some (.int .i64 y3) ∧ w'.cell? ⟨b, off + b2 * 6 + 3, none⟩ = some (.int .u64 y4) ∧ w'.cell? ⟨b, off + b2 * 6 + 4, none⟩ = some (.int .u64 y5) ∧ w'.cell? ⟨b, off + b2 * 6 + 5, none⟩ = some (.slice Ay my cy)) ((go_split_ands; first | (refine ⟨?_, ?_, ?_, ?_, ?_, ?_, ?_, ?_, ?_, ?_, ?_, ?_, ?_, ?_, ?_, ?_, ?_⟩ <;> first | assumption | exact k3 | exact Keep.refl _ _ | exact Keep.trans (by assumption) k3 | exact keepC k3 (by assumption) | exact Keep.trans (by assumption) (drewN_keep _ _ 1) | exact keepC (drewN_keep _ _ 1) (by assumption)))) (first | (go_at_call 23; refine (WA.out _).mono ?_; rintro e w3 ⟨rfl, k3⟩) | (go_at_call 24; refine (WB.out _ (by go_split_ands; first | assumption | exact Keep.refl _ _)).mono ?_; rintro e w3 ⟨rfl, k3⟩))
                          rename_i hHeld
                          go_wp2
                          first | exact ⟨⟨q + 1, by rw [HM.out]; omega, by go_num, KQ.out.trans hHeld.1, NZ.out rfl⟩, by simp [intOf]; omega⟩ | (refine ⟨?rel2, ?meas2⟩; (case meas2 => (simp [intOf]; omega)); (case rel2 => ((repeat apply Exists.intro); exact ⟨⟨q + 1, by rw [HM.out]; omega, by go_num, KQ.out.trans hHeld.1, NZ.out rfl⟩, rfl⟩)))
                        | true =>
                          obtain rfl : false = R := by rw [← HR.out]; exact (writersP_not hlb (by rw [HN.out]; exact hlt) (CZ.out rfl)).symm
                          go_wp2_with fail
                          go_region_held3 (fun w' => Keep (fun _ => False) wr w' ∧ w'.cell? ⟨b, off + a * 6 + 5, none⟩ = some (.slice (some ⟨b3, off3, none⟩) m c2) ∧ w'.cell? ⟨b3, off3 + q * 9, none⟩ = some (.int .i64 yk) ∧ w'.cell? ⟨b3, off3 + q * 9 + 1, none⟩ = some (.int .i64 yy) ∧ w'.cell? ⟨b3, off3 + q * 9 + 2, none⟩ = some (.int .i64 yh) ∧ w'.cell? ⟨b3, off3 + q * 9 + 3, none⟩ = some (.int .i64 yv) ∧ w'.cell? ⟨b3, off3 + q * 9 + 4, none⟩ = some (.int .i64 re) ∧ w'.cell? ⟨b3, off3 + q * 9 + 5, none⟩ = some (.int .i64 rv) ∧ w'.cell? ⟨b3, off3 + q * 9 + 6, none⟩ = some (.slice A4 lp c4) ∧ w'.cell? ⟨b3, off3 + q * 9 + 7, none⟩ = some (.int .i64 ro) ∧ w'.cell? ⟨b3, off3 + q * 9 + 8, none⟩ = some (.int .i64 rr) ∧ w'.cell? ⟨b, off + b2 * 6, none⟩ = some (.int .i64 y1) ∧ w'.cell? ⟨b, off + b2 * 6 + 1, none⟩ = some (.int .i64 y2) ∧ w'.cell? ⟨b, off + b2 * 6 + 2, none⟩ = some (.int .i64 y3) ∧ w'.cell? ⟨b, off + b2 * 6 + 3, none⟩ = some (.int .u64 y4) ∧ w'.cell? ⟨b, off + b2 * 6 + 4, none⟩ = some (.int .u64 y5) ∧ w'.cell? ⟨b, off + b2 * 6 + 5, none⟩ = some (.slice Ay my cy)) ((go_split_ands; first | (refine ⟨?_, ?_, ?_, ?_, ?_, ?_, ?_, ?_, ?_, ?_, ?_, ?_, ?_, ?_, ?_, ?_, ?_⟩ <;> first | assumption | exact k3 | exact Keep.refl _ _ | exact Keep.trans (by assumption) k3 | exact keepC k3 (by assumption) | exact Keep.trans (by assumption) (drewN_keep _ _ 1) | exact keepC (drewN_keep _ _ 1) (by assumption)))) (first | (go_at_call 23; refine (WA.out _).mono ?_; rintro e w3 ⟨rfl, k3⟩) | (go_at_call 24; refine (WB.out _ (by go_split_ands; first | assumption | exact Keep.refl _ _)).mono ?_; rintro e w3 ⟨rfl, k3⟩))
                          rename_i hHeld
                          go_wp2
                          go_ret
                          exact ⟨rfl, KQ.out.trans hHeld.1⟩
                    · obtain rfl : q = m := by omega
                      have CL := clash_of (x := x) (y := y) fun j z hj hz => PQ.out j z (by rw [← HM.out]; exact hj) hz
                      have QQ := Lib.hid (NX.out (by rw [PEQ.out, CL]; rfl))
                      clear CL
                      go_wp2
                      first | exact ⟨⟨b2 + 1, by omega, by go_num, KQ.out, QQ.out⟩, by simp [intOf]; omega⟩ | (refine ⟨?rel2, ?meas2⟩; (case meas2 => (simp [intOf]; omega)); (case rel2 => ((repeat apply Exists.intro); exact ⟨⟨b2 + 1, by omega, by go_num, KQ.out, QQ.out⟩, rfl⟩)))
            · have n2 : (y.state != 3) = true := by simpa using s2
              have QQ := Lib.hid (NX.out (by rw [PE.out]; simp [s2]))
              clear s1 s2
              go_wp2_with fail; go_quiet (fail); go_wp2; first | exact ⟨⟨b2 + 1, by omega, by go_num, KB.out.trans (drewN_keep _ _ nq), QQ.out⟩, by simp [intOf]; omega⟩ | (refine ⟨?rel2, ?meas2⟩; (case meas2 => (simp [intOf]; omega)); (case rel2 => ((repeat apply Exists.intro); exact ⟨⟨b2 + 1, by omega, by go_num, KB.out.trans (drewN_keep _ _ nq), QQ.out⟩, rfl⟩)))
          · have n1 : (x.state != 3) = true := by simpa using s1
            have QQ := Lib.hid (NX.out (by rw [PE.out]; simp [s1]))
            clear s1
            go_wp2_with fail; go_quiet (fail); go_wp2; first | exact ⟨⟨b2 + 1, by omega, by go_num, KB.out.trans (drewN_keep _ _ nq), QQ.out⟩, by simp [intOf]; omega⟩ | (refine ⟨?rel2, ?meas2⟩; (case meas2 => (simp [intOf]; omega)); (case rel2 => ((repeat apply Exists.intro); exact ⟨⟨b2 + 1, by omega, by go_num, KB.out.trans (drewN_keep _ _ nq), QQ.out⟩, rfl⟩)))
        · obtain rfl : b2 = a := by omega
          have PN := Lib.hid (show ∀ i k, k < i → i < b2 + 1 → pairP ds i k = true from fun i k hk hi => by
            by_cases e : i = b2
            · rw [e]; exact PB.out k (by omega)
            · exact PA.out i k hk (by omega))
          go_wp2
          first | exact ⟨⟨b2 + 1, by rw [HN.out]; omega, by go_num, KB.out, PN.out⟩, by simp [intOf]; omega⟩ | (refine ⟨?rel2, ?meas2⟩; (case meas2 => (simp [intOf]; omega)); (case rel2 => ((repeat apply Exists.intro); exact ⟨⟨b2 + 1, by rw [HN.out]; omega, by go_num, KB.out, PN.out⟩, rfl⟩)))
    · obtain rfl : a = n := by omega
      obtain rfl : true = R := by rw [← HR.out]; exact (writersP_of fun i k hk hi => PA.out i k hk (by rw [← HN.out]; exact hi)).symm
      go_wp2
      go_ret
      exact ⟨rfl, KA.out⟩
end
end Go.Proofs.Ytalkfnblnlcklaa
/- What calls leave of a key; what is seen of a key; keys that are looked at. No dump; no condition. -/
namespace Go.Proofs.Ytalkfnblnlcklaa
set_option linter.unusedVariables false
/-- What one more call leaves of a key (none: no call has written it; some none: it is gone). -/
def eff1 (key : Int) (a : Option (Option Int)) (c : OpI × ReI) : Option (Option Int) :=
 if c.2.e = 0 ∧ key = c.1.key ∧ (c.1.kind = 2 ∨ c.1.kind = 3) then some (some c.1.val) else if c.2.e = 0 ∧ key = c.1.key ∧ c.1.kind = 4 then some none else a
def effK (key : Int) (cs : List (OpI × ReI)) : Option (Option Int) := cs.foldl (eff1 key) none
section
variable {cs : List (OpI × ReI)} {c : OpI × ReI} {key k : Int} {V : List (Int × Int)} {v : List VrI} {p : VrI → Bool} {x : MoI} {s : Nat}
theorem fold_find (a : Option (Option Int)) {b : Option Int} (hV : Sk V) (h : findP V k = a.getD b) : findP (cs.foldl laidP V) k = (cs.foldl (eff1 k) a).getD b := by
  induction cs generalizing V a with
  | nil => exact h
  | cons c cs ih =>
    refine ih _ (sk_laid hV c) ?_
    rw [laid_find hV, h]
    unfold eff1
    split
    · rfl
    · split <;> rfl
theorem eff_find (hV : Sk V) : findP (cs.foldl laidP V) k = (effK k cs).getD (findP V k) := fold_find none hV rfl
theorem eff_snoc : effK k (cs ++ [c]) = eff1 k (effK k cs) c := by
 unfold effK
 rw [List.foldl_append]
 rfl
theorem eff1_ne {a : Option (Option Int)} (h : a ≠ none) : eff1 k a c ≠ none := by
 unfold eff1
 split
 ·exact fun e => by cases e
 ·split
  ·exact fun e => by cases e
  ·exact h
theorem fold_ne {a : Option (Option Int)} (h : a ≠ none) : cs.foldl (eff1 k) a ≠ none := by
 induction cs generalizing a with
 | nil => exact h
 | cons c cs ih => exact ih (eff1_ne h)
theorem writes_iff : writesI c = true ↔ c.2.e = 0 ∧ (c.1.kind = 2 ∨ c.1.kind = 3 ∨ c.1.kind = 4) := by
 unfold writesI
 simp [or_assoc]
theorem eff1_writes (h : writesI c = true) {a : Option (Option Int)} : eff1 c.1.key a c ≠ none := by
 obtain ⟨e0, hk⟩ := writes_iff.1 h
 unfold eff1
 by_cases h2 : c.1.kind = 2 ∨ c.1.kind = 3
 ·rw [if_pos ⟨e0, rfl, h2⟩]; exact fun e => by cases e
 ·rw [if_neg (fun t => h2 t.2.2), if_pos ⟨e0, rfl, by omega⟩]; exact fun e => by cases e
theorem eff1_not (h : ¬ (writesI c = true ∧ k = c.1.key)) {a : Option (Option Int)} : eff1 k a c = a := by
 unfold eff1
 rw [if_neg (fun t => h ⟨writes_iff.2 ⟨t.1, by omega⟩, t.2.1⟩), if_neg (fun t => h ⟨writes_iff.2 ⟨t.1, by omega⟩, t.2.1⟩)]
theorem eff_mem (h : c ∈ cs) (hw : writesI c = true) : effK c.1.key cs ≠ none := by
  have : ∀ (cs : List (OpI × ReI)) (a : Option (Option Int)), c ∈ cs → cs.foldl (eff1 c.1.key) a ≠ none := by
    intro cs
    induction cs with
    | nil => intro a h; cases h
    | cons d cs ih =>
      intro a h
      rcases List.mem_cons.1 h with rfl | h
      · rw [List.foldl_cons]; exact fold_ne (eff1_writes hw)
      · exact ih _ h
  exact this cs none h
theorem wrote_eff (h : wroteI key cs = true) : effK key cs ≠ none := by
  have : ∃ c ∈ cs, writesI c = true ∧ c.1.key = key := by
    induction cs with
    | nil => unfold wroteI at h; cases h
    | cons d cs ih =>
      unfold wroteI at h
      by_cases q : d.1.key = key ∧ writesI d = true
      · exact ⟨d, List.mem_cons_self .., q.2, q.1⟩
      · have : wroteI key cs = true := by
          first
          | (rw [if_neg q] at h; exact h)
          | (rw [if_neg (fun t => q ⟨t.1, t.2⟩)] at h; exact h)
          | (simp at h; rcases h with h | h; exact absurd h q; exact h)
        obtain ⟨c, h1, h2⟩ := ih this
        exact ⟨c, List.mem_cons_of_mem _ h1, h2⟩
  obtain ⟨c, h1, h2, rfl⟩ := this
  exact eff_mem h1 h2
/-- A value that is found by a test that meets one version at most. -/
theorem find_val {a : Int} (hu : ∀ y ∈ v, ∀ z ∈ v, p y = true → p z = true → y.val = z.val) : (v.findIdx? p).map (valI v) = some a ↔ ∃ y ∈ v, p y = true ∧ y.val = a := by
  have at' : ∀ i, v.findIdx? p = some i → ∃ y, v[i]? = some y ∧ p y = true ∧ valI v i = y.val := fun i hi => by
    obtain ⟨hl, hp, _⟩ := List.findIdx?_eq_some_iff_getElem.1 hi
    refine ⟨v[i], List.getElem?_eq_getElem hl, hp, ?_⟩
    unfold valI
    rw [List.getElem?_eq_getElem hl]
  constructor
  · intro h
    obtain ⟨i, hi, rfl⟩ := Option.map_eq_some_iff.1 h
    obtain ⟨y, hy, hp, e⟩ := at' i hi
    exact ⟨y, List.mem_of_getElem? hy, hp, e.symm⟩
  · rintro ⟨y, hy, hp, rfl⟩
    cases c : v.findIdx? p with
    | none =>
      have := List.findIdx?_eq_none_iff.1 c y hy
      rw [hp] at this
      cases this
    | some i =>
      obtain ⟨z, hz, hq, e⟩ := at' i c
      rw [Option.map_some, e]
      exact congrArg some (hu z (List.mem_of_getElem? hz) y hy hq hp)
theorem Good.pair (h : Good x) {y z : VrI} (hy : y ∈ x.v) (hz : z ∈ x.v) : y = z ∨ Apart y z := by
 obtain ⟨i, hi⟩ := List.mem_iff_getElem?.1 hy
 obtain ⟨j, hj⟩ := List.mem_iff_getElem?.1 hz
 by_cases e : i = j
 ·subst e
  rw [hi] at hj
  exact .inl (Option.some.inj hj)
 ·exact .inr (apart_at h.two hi hj e)
/-- There at a time is one at most. -/
theorem Good.one (h : Good x) {t : Int} {y z : VrI} (hy : y ∈ x.v) (hz : z ∈ x.v) (py : thereV key t y = true) (pz : thereV key t z = true) : y = z := by
 obtain ⟨a1, a2, a3, a4, a5⟩ := there_iff.1 py
 obtain ⟨b1, b2, b3, b4, b5⟩ := there_iff.1 pz
 rcases h.pair hy hz with e | ap
 ·exact e
 ·rcases (ap (a1.trans b1.symm) a2 b2).1 a3 b3 with c | c <;> omega
/-- One's own is one at most. -/
theorem Good.mine (h : Good x) {id : Int} (h0 : id ≠ 0) {y z : VrI} (hy : y ∈ x.v) (hz : z ∈ x.v) (py : mineV id key y = true) (pz : mineV id key z = true) : y = z := by
 obtain ⟨a1, a2, a3, a4⟩ := mine_iff.1 py
 obtain ⟨b1, b2, b3, b4⟩ := mine_iff.1 pz
 rcases h.pair hy hz with e | ap
 ·exact e
 ·exact absurd (a4.trans b4.symm) ((ap (a1.trans b1.symm) a2 b2).2 (by rw [a4]; exact h0))
/-- What is seen of a key that one has written; of one that one hasn't. -/
theorem Good.see_own (h : Good x) (hs : s < 8) (h0 : (x.s s).id ≠ 0) (hk : key ∈ (x.s s).wrote) {a : Int} : (seesI x.v (x.s s).id (x.s s).start key).map (valI x.v) = some a ↔ ∃ y ∈ x.v, mineV (x.s s).id key y = true ∧ y.val = a := by
 have el : x.v.findIdx? (elderV (x.s s).id key (x.s s).start) = none := List.findIdx?_eq_none_iff.2 fun y hy => h.no_elder hs h0 hk hy
 have e : seesI x.v (x.s s).id (x.s s).start key = x.v.findIdx? (mineV (x.s s).id key) := by
  unfold seesI
  rw [el]
  cases x.v.findIdx? (mineV (x.s s).id key) <;> rfl
 rw [e]
 exact find_val fun y hy z hz py pz => by rw [h.mine h0 hy hz py pz]
theorem Good.elder_there (h : Good x) (hs : s < 8) (h0 : (x.s s).id ≠ 0) (hk : key ∉ (x.s s).wrote) {y : VrI} (hy : y ∈ x.v) : elderV (x.s s).id key (x.s s).start y = thereV key (x.s s).start y := by
 have o := h.ver y hy
 rw [Bool.eq_iff_iff, elder_iff, there_iff]
 constructor
 ·rintro ⟨a1, a2, a3, a4, a5, a6⟩
  refine ⟨a1, a2, a4, a5, ?_⟩
  rcases a6 with c | c
  ·exact .inl (o.en c).2.1
  ·exact c
 ·rintro ⟨a1, a2, a4, a5, a6⟩
  refine ⟨a1, a2, fun c => ?_, a4, a5, .inr a6⟩
  exact hk (a1 ▸ h.whose hs rfl h0 (c ▸ (o.en (by rw [c]; exact h0)).2.2))
theorem Good.no_mine (h : Good x) (hs : s < 8) (h0 : (x.s s).id ≠ 0) (hk : key ∉ (x.s s).wrote) {y : VrI} (hy : y ∈ x.v) : mineV (x.s s).id key y = false := by
  cases c : mineV (x.s s).id key y with
  | false => rfl
  | true =>
    obtain ⟨a1, a2, a3, a4⟩ := mine_iff.1 c
    exact absurd (a1 ▸ h.whose hs rfl h0 (a4 ▸ ((h.ver y hy).by' (by rw [a4]; exact h0)).2.2 a2)) hk
theorem Good.see_other (h : Good x) (hs : s < 8) (h0 : (x.s s).id ≠ 0) (hk : key ∉ (x.s s).wrote) {a : Int} : (seesI x.v (x.s s).id (x.s s).start key).map (valI x.v) = some a ↔ ∃ y ∈ x.v, thereV key (x.s s).start y = true ∧ y.val = a := by
 have el : x.v.findIdx? (mineV (x.s s).id key) = none := List.findIdx?_eq_none_iff.2 fun y hy => h.no_mine hs h0 hk hy
 have e : seesI x.v (x.s s).id (x.s s).start key = x.v.findIdx? (elderV (x.s s).id key (x.s s).start) := by
  unfold seesI
  rw [el]
 rw [e, find_val]
 ·constructor
  ·rintro ⟨y, hy, q, r⟩
   exact ⟨y, hy, by rw [← h.elder_there hs h0 hk hy]; exact q, r⟩
  ·rintro ⟨y, hy, q, r⟩
   exact ⟨y, hy, by rw [h.elder_there hs h0 hk hy]; exact q, r⟩
 ·intro y hy z hz py pz
  rw [h.elder_there hs h0 hk hy] at py
  rw [h.elder_there hs h0 hk hz] at pz
  rw [h.one hy hz py pz]
theorem mem_keys {lo : Int} {n : Nat} : k ∈ keysI lo n ↔ lo ≤ k ∧ k < lo + n := by
  induction n generalizing lo with
  | zero =>
    constructor
    · intro h; cases h
    · intro h; omega
  | succ n ih =>
    show k ∈ lo :: keysI (lo + 1) n ↔ _
    rw [List.mem_cons, ih]
    omega
/-- Rows of a Pair a key at most, in the order of the keys. -/
theorem sk_keys {f : Int → List (Int × Int)} (hf : ∀ k, ∀ q ∈ f k, q.1 = k) (h1 : ∀ k, (f k).length ≤ 1) (lo : Int) (n : Nat) : Sk ((keysI lo n).flatMap f) := by
  induction n generalizing lo with
  | zero => exact List.Pairwise.nil
  | succ n ih =>
    show Sk ((lo :: keysI (lo + 1) n).flatMap f)
    rw [List.flatMap_cons]
    refine List.pairwise_append.2 ⟨?_, ih _, fun a ha b hb => ?_⟩
    · have := h1 lo
      cases hl : f lo with
      | nil => exact List.Pairwise.nil
      | cons a l =>
        rw [hl] at this
        have : l = [] := List.length_eq_zero_iff.1 (by simpa using this)
        rw [this]
        exact List.pairwise_singleton _ _
    · obtain ⟨k, hk, hq⟩ := List.mem_flatMap.1 hb
      have := (mem_keys.1 hk).1
      have e1 := hf lo a ha
      have e2 := hf k b hq
      omega
theorem scan_sk (v : List VrI) (id at' lo hi : Int) : Sk (scanI v id at' lo hi) := by
 unfold scanI
 refine sk_keys (fun k q hq => ?_) (fun k => ?_) _ _
 ·unfold pairI at hq
  split at hq
  ·rw [List.mem_singleton.1 hq]
  ·cases hq
 ·unfold pairI
  split <;> simp
theorem mem_scan {v : List VrI} {id at' lo hi a : Int} : (k, a) ∈ scanI v id at' lo hi ↔ (lo ≤ k ∧ k ≤ hi) ∧ (seesI v id at' k).map (valI v) = some a := by
 unfold scanI
 rw [List.mem_flatMap]
 constructor
 ·rintro ⟨j, hj, hq⟩
  have := mem_keys.1 hj
  unfold pairI at hq
  split at hq
  ·next i e =>
   have q := List.mem_singleton.1 hq
   cases q
   exact ⟨by omega, by rw [e]; rfl⟩
  ·cases hq
 ·rintro ⟨hb, hq⟩
  refine ⟨k, mem_keys.2 (by omega), ?_⟩
  unfold pairI
  obtain ⟨i, hi, e⟩ := Option.map_eq_some_iff.1 hq
  rw [hi]
  exact List.mem_singleton.2 (by rw [e])
end
end Go.Proofs.Ytalkfnblnlcklaa
