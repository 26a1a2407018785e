/- Package tale: what is asked of a transaction and a history, and what turns them: draw, open, runs, prepare, ready, publish. Condition: at most 20,000 events. -/
import Derived.Test.YtalkfnblnlcklaaDoorTlH
import Derived.Test.YtalkfnblnlcklaaDoorOnceC
import Derived.ChangeOld
import Derived.Deep.LoopGhost
import Derived.Deep.CutRange
import Derived.Deep.CutBlock
import Derived.Deep.RegionHeld3
namespace Go.Proofs.YtalkfnblnlcklaaDoor
open Go.ChangeShapes Go.WideShapes Go.ChangeAt Go.RowKit
set_option linter.unusedVariables false
set_option linter.unusedSimpArgs false
section
variable {w w' : World} {h K i b : Nat} {o o' : Nat → Nat} {B : List Nat} {va u : Value} {z : HsI} {t : TnI} {S X : Nat → Prop}
theorem tn_lt (H : HsAt w h o B va K z) (hb : B[i]? = some b) : i < z.tx.length := by rw [← H.len]; exact (List.getElem?_eq_some_iff.1 hb).1
theorem open_any (H : HsAt w h o B va K z) (hb : B[i]? = some b) (r : Bool) (hr : decide ((z.at' i).state = 1) = r) : Calls Tryd.prog 23 #[ptrV b] w fun e w' => e = .returned (.bool r) ∧ w' = w := by
  obtain ⟨u, q⟩ := H.tx i b hb
  have c7 := q.ce.c7
  obtain ⟨s, es⟩ : ∃ s, (z.at' i).state = s := ⟨_, rfl⟩
  rw [es] at c7 hr
  have hq : (s == 1) = r := by rw [← hr]; rw [Bool.eq_iff_iff]; simp
  clear es hr q H hb
  unfold ptrV
  go_enter Tryd.func23, Tryd.ntmps23
  go_wp2
  go_ret
  exact ⟨rfl, rfl⟩
theorem runs_any (H : HsAt w h o B va K z) (hb : B[i]? = some b) (r : Bool) (hr : (decide ((z.at' i).state = 1) && decide ((z.at' i).stop = 0)) = r) : Calls Tryd.prog 21 #[ptrV b] w fun e w' => e = .returned (.bool r) ∧ w' = w := by
  have OP := fun q hq => open_any H hb q hq
  obtain ⟨u, q⟩ := H.tx i b hb
  have c2 := q.ce.c2
  obtain ⟨s, es⟩ : ∃ s, (z.at' i).stop = s := ⟨_, rfl⟩
  rw [es] at c2 hr
  obtain ⟨a, ea⟩ : ∃ a, decide ((z.at' i).state = 1) = a := ⟨_, rfl⟩
  have OA := OP a ea
  rw [ea] at hr
  clear OP es ea q H hb
  unfold ptrV at OA ⊢
  cases a with
  | false =>
    obtain rfl : false = r := by rw [← hr]; rfl
    go_enter Tryd.func21, Tryd.ntmps21
    go_wp2_with fail
    refine OA.mono ?_
    rintro e w1 ⟨rfl, rfl⟩
    go_wp2
    go_ret
    exact ⟨rfl, rfl⟩
  | true =>
    have hq : (s == 0) = r := by rw [← hr]; rw [Bool.eq_iff_iff]; simp
    clear hr
    go_enter Tryd.func21, Tryd.ntmps21
    go_wp2_with fail
    refine OA.mono ?_
    rintro e w1 ⟨rfl, rfl⟩
    go_wp2
    go_ret
    exact ⟨rfl, rfl⟩
theorem draw_no (H : HsAt w h o B va K z) (n : Int) (hn : ¬ z.last < n) : Calls Tryd.prog 29 #[.pointer (some ⟨h, 0, none⟩), .int .u64 n] w fun e w' => e = .returned (.bool false) ∧ w' = w := by
  have c1 := H.c1
  obtain ⟨l, el⟩ : ∃ l, z.last = l := ⟨_, rfl⟩
  rw [el] at c1 hn
  have hq : decide (n ≤ l) = true := decide_eq_true (by omega)
  clear el H hn
  go_enter Tryd.func29, Tryd.ntmps29
  go_wp2
  go_ret
  exact ⟨rfl, rfl⟩
theorem draw_yes (H : HsAt w h o B va K z) (n : Int) (hn : z.last < n) : Calls Tryd.prog 29 #[.pointer (some ⟨h, 0, none⟩), .int .u64 n] w fun e w' => e = .returned (.bool true) ∧ w' = w.setCell ⟨h, 1, none⟩ (.int .u64 n) := by
  have c1 := H.c1
  have f1 := H.fz 1
  obtain ⟨l, el⟩ : ∃ l, z.last = l := ⟨_, rfl⟩
  rw [el] at c1 hn
  have hq : decide (n ≤ l) = false := decide_eq_false (by omega)
  clear el H hn
  go_enter Tryd.func29, Tryd.ntmps29
  go_wp2
  go_ret
  exact ⟨rfl, rfl⟩
theorem prepare_no (H : HsAt w h o B va K z) (n : Int) (hn : ¬ z.last < n) (b : Nat) : Calls Tryd.prog 22 #[.pointer (some ⟨h, 0, none⟩), ptrV b, .int .u64 n] w fun e w' => e = .returned (.bool false) ∧ w' = w := by
  have D := draw_no H n hn
  clear H hn
  unfold ptrV
  go_enter Tryd.func22, Tryd.ntmps22
  go_wp2_with fail
  refine D.mono ?_
  rintro e w1 ⟨rfl, rfl⟩
  go_wp2
  go_ret
  exact ⟨rfl, rfl⟩
/-- What leaves a history turned: w' holds z', only its own blocks and new ones have turned. -/
def HsTo (w : World) (h : Nat) (o : Nat → Nat) (K : Nat) (z' : HsI) (w' : World) : Prop := ∃ o' B' va', HsAt w' h o' B' va' K z' ∧ Keep (fun g => o g ≠ 0) w w' ∧ ∀ g, o' g ≠ 0 → o g ≠ 0 ∨ w.heap.size ≤ g
theorem prepare_yes (H : HsAt w h o B va K z) (n : Int) (hn : z.last < n) (hb : B[i]? = some b) :
    Calls Tryd.prog 22 #[.pointer (some ⟨h, 0, none⟩), ptrV b, .int .u64 n] w fun e w' => e = .returned (.bool true) ∧ HsTo w h o K { z.put i { z.at' i with stop := n } with last := n } w' := by
  have D := draw_yes H n hn
  have H1 := H.draw n
  have k1 := keep_one w ⟨h, 1, none⟩ (.int .u64 n)
  obtain ⟨u, q⟩ := H1.tx i b hb
  have c2 := q.ce.c2
  have f2 := q.ce.fz 2
  have ob := q.ob
  have oh := H.oh
  obtain ⟨w1, e1⟩ : ∃ w1, w.setCell ⟨h, 1, none⟩ (.int .u64 n) = w1 := ⟨_, rfl⟩
  rw [e1] at D H1 k1 c2 f2
  have k2 := keep_one w1 ⟨b, 2, none⟩ (.int .u64 n)
  have H2 := H1.turn (t := { z.at' i with stop := n }) hb k2 (fun g e => .inl e) rfl (fun u c => ⟨(World.cell?_setCell_other _ _ _ _ (by simp)).trans c.c0, (World.cell?_setCell_other _ _ _ _ (by simp)).trans c.c1, World.cell?_setCell_same _ _ _ c.c2, (World.cell?_setCell_other _ _ _ _ (by simp)).trans c.c3, (World.cell?_setCell_other _ _ _ _ (by simp)).trans c.c4, (World.cell?_setCell_other _ _ _ _ (by simp)).trans c.c5, (World.cell?_setCell_other _ _ _ _ (by simp)).trans c.c7, fun j => by rw [World.frozen?_setCell]; exact c.fz j⟩)
  have F := Lib.hid (show HsTo w h o K { z.put i { z.at' i with stop := n } with last := n } (w1.setCell ⟨b, 2, none⟩ (.int .u64 n)) from
    ⟨o, B, va, H2, (k1.mono fun g e => by have e : g = h := e; rw [e, oh]; decide).trans (k2.mono fun g e => by have e : g = b := e; rw [e, ob]; omega), fun g hg => .inl hg⟩)
  clear H H1 H2 k1 k2 hn q e1 ob oh hb
  unfold ptrV
  go_enter Tryd.func22, Tryd.ntmps22
  go_wp2_with fail
  refine D.mono ?_
  rintro e w2 ⟨rfl, rfl⟩
  go_wp2
  go_ret
  exact ⟨rfl, F.out⟩
def RyK (z : HsI) (L : List Nat) (w : World) (i : Value) (wr : World) : Prop := ∃ k : Nat, k ≤ L.length ∧ i = .int .i64 k ∧ wr = w ∧ ∀ j a, j < k → L[j]? = some a → (z.at' a).state = 3
theorem all_yes {z : HsI} {L : List Nat} (h : ∀ (j : Nat) a, j < L.length → L[j]? = some a → (z.at' a).state = 3) : (L.all fun j => decide ((z.at' j).state = 3)) = true :=
  List.all_eq_true.2 fun a ha => by
    obtain ⟨j, hj⟩ := List.mem_iff_getElem?.1 ha
    exact decide_eq_true (h j a (List.getElem?_eq_some_iff.1 hj).1 hj)
theorem all_no {z : HsI} {L : List Nat} {j a : Nat} (hj : L[j]? = some a) (h : (z.at' a).state ≠ 3) : (L.all fun j => decide ((z.at' j).state = 3)) = false := by
  cases c : (L.all fun j => decide ((z.at' j).state = 3)) with
  | false => rfl
  | true => exact absurd (of_decide_eq_true (List.all_eq_true.1 c a (List.mem_of_getElem? hj))) h
set_option maxRecDepth 100000 in
theorem ready_any (H : HsAt w h o B va K z) (hK : K ≤ 20000) (hb : B[i]? = some b) (r : Bool) (hr : (z.free i && decide ((z.at' i).stop ≠ 0)) = r) : Calls Tryd.prog 25 #[ptrV b] w fun e w' => e = .returned (.bool r) ∧ w' = w := by
  obtain ⟨u, q⟩ := H.tx i b hb
  have c2 := q.ce.c2
  have c3 := q.ce.c3
  have bo := q.bo
  have bl : (z.at' i).bonds.length ≤ K := H.nb.2 _ (List.mem_of_getElem? (at_lt (tn_lt H hb)))
  obtain ⟨L, eL⟩ : ∃ L, (z.at' i).bonds = L := ⟨_, rfl⟩
  unfold HsI.free at hr
  rw [eL] at bo bl hr
  obtain ⟨n, hn⟩ : ∃ n, L.length = n := ⟨_, rfl⟩
  have fm : ∃ A c, u = .slice A n c ∧ (0 < n → ∃ g, A = some ⟨g, 0, none⟩) := by
    rcases OwnM.form bo with ⟨e, e2⟩ | ⟨g, c, e, _⟩
    · have : n = 0 := by rw [← hn]; simpa using congrArg List.length e2
      exact ⟨none, 0, by rw [e, this], fun h => by omega⟩
    · rw [List.length_map, hn] at e
      exact ⟨_, c, e, fun _ => ⟨g, rfl⟩⟩
  obtain ⟨A, c, rfl, hA⟩ := fm
  have LT := Lib.hid (show ∀ j ∈ L, j < B.length by rw [← eL]; exact q.lt)
  have CE := Lib.hid (fun (j a : Nat) (hj : L[j]? = some a) (g : Nat) (hg : A = some ⟨g, 0, none⟩) => (show w.cell? ⟨g, j, none⟩ = some (ptrV (B.getD a 0)) from by
    subst hg
    have hl : j < (L.map fun j => B.getD j 0).length := by rw [List.length_map]; exact (List.getElem?_eq_some_iff.1 hj).1
    have := OwnM.cell pF_len bo j 0 hl (by decide)
    have e : (L.map fun j => B.getD j 0)[j] = B.getD a 0 := by
      have : (L.map fun j => B.getD j 0)[j]? = some (B.getD a 0) := by rw [List.getElem?_map, hj]; rfl
      rw [List.getElem?_eq_getElem hl] at this
      exact Option.some.inj this
    rw [e] at this
    simpa [pF] using this))
  have ST := Lib.hid (fun (a : Nat) (ha : a < B.length) => (show w.cell? ⟨B.getD a 0, 7, none⟩ = some (.int .i64 (z.at' a).state) from by
    obtain ⟨u', q'⟩ := H.tx a (B.getD a 0) (by rw [List.getD_eq_getElem?_getD, List.getElem?_eq_getElem ha]; rfl)
    exact q'.ce.c7))
  obtain ⟨s, es⟩ : ∃ s, (z.at' i).stop = s := ⟨_, rfl⟩
  rw [es] at c2 hr
  have HR := Lib.hid hr
  have HN := Lib.hid hn
  have nb : n ≤ 20000 := by omega
  clear q bo es eL hb H hr hn bl hK
  unfold ptrV
  go_enter Tryd.func25, Tryd.ntmps25
  go_wp2
  go_loopw [10] (RyK z L w) (fun i _ => n - (intOf i).toNat)
  case atStart => exact ⟨0, Nat.zero_le _, rfl, rfl, fun j a hj => absurd hj (Nat.not_lt_zero _)⟩
  case round =>
    obtain ⟨k, hk, rfl, rfl, hall⟩ := hrel
    rw [HN.out] at hk
    by_cases hlt : k < n
    · obtain ⟨a, ha⟩ : ∃ a, L[k]? = some a := ⟨_, List.getElem?_eq_getElem (by rw [HN.out]; exact hlt)⟩
      obtain ⟨g, rfl⟩ := hA (by omega)
      have ce := CE.out k a ha g rfl
      have st := ST.out a (LT.out a (List.mem_of_getElem? ha))
      obtain ⟨y, ey⟩ : ∃ y, B.getD a 0 = y := ⟨_, rfl⟩
      obtain ⟨x, ex⟩ : ∃ x, (z.at' a).state = x := ⟨_, rfl⟩
      rw [ey] at ce st
      rw [ex] at st
      unfold ptrV at ce
      have wk : IntKind.i64.wrap ((k : Int) + 1) = (k : Int) + 1 := IntWalk.i64_in _ (by omega)
      have HALL := Lib.hid hall
      have HA := Lib.hid ha
      have EX := Lib.hid ex
      clear hall ha ey ex
      by_cases h3 : x = 3
      · subst h3
        go_wp2
        first | exact ⟨⟨k + 1, by rw [HN.out]; omega, by go_num, rfl, fun j a' hj ha' => by
          by_cases e : j = k
          · subst e; rw [HA.out] at ha'; cases ha'; exact EX.out
          · exact HALL.out j a' (by omega) ha'⟩, by simp [intOf]; omega⟩ | (refine ⟨?rel2, ?meas2⟩; (case meas2 => (simp [intOf]; omega)); (case rel2 => ((repeat apply Exists.intro); exact ⟨⟨k + 1, by rw [HN.out]; omega, by go_num, rfl, fun j a' hj ha' => by
          by_cases e : j = k
          · subst e; rw [HA.out] at ha'; cases ha'; exact EX.out
          · exact HALL.out j a' (by omega) ha'⟩, rfl⟩)))
      · have hq : (x != 3) = true := by simpa using h3
        obtain rfl : false = r := by rw [← HR.out, all_no HA.out (by rw [EX.out]; exact h3)]; rfl
        go_wp2
        go_ret
        exact ⟨rfl, rfl⟩
    · obtain rfl : k = n := by omega
      have hq : (s != 0) = r := by
        rw [← HR.out, all_yes (fun j a hj => hall j a (by rw [HN.out] at hj; exact hj)), Bool.true_and]
        rw [Bool.eq_iff_iff]; simp
      clear hall
      go_wp2
      go_ret
      exact ⟨rfl, rfl⟩
/-- The closure that publishes. -/
theorem pub1_any (bs bx bd b : Nat) (s : Int) (h0 : w.cell? ⟨bs, 0, none⟩ = some (.int .i64 s)) (h1 : w.cell? ⟨bx, 0, none⟩ = some (ptrV b)) {u7 ud : Value} (h7 : w.cell? ⟨b, 7, none⟩ = some u7) (f7 : w.frozen? ⟨b, 7, none⟩ = false) (hd : w.cell? ⟨bd, 0, none⟩ = some ud) (fd : w.frozen? ⟨bd, 0, none⟩ = false) (ne : bd ≠ b) :
    Calls Tryd.prog 31 #[.pointer (some ⟨bs, 0, none⟩), .pointer (some ⟨bx, 0, none⟩), .pointer (some ⟨bd, 0, none⟩)] w fun e w' => e = .returned (.tuple #[]) ∧ w' = (w.setCell ⟨b, 7, none⟩ (.int .i64 s)).setCell ⟨bd, 0, none⟩ (.bool true) := by
  unfold ptrV at h1
  have hd2 : (w.setCell ⟨b, 7, none⟩ (.int .i64 s)).cell? ⟨bd, 0, none⟩ = some ud := (World.cell?_setCell_other _ _ _ _ (fun e => ne (congrArg Addr.block e).symm)).trans hd
  have fd2 : (w.setCell ⟨b, 7, none⟩ (.int .i64 s)).frozen? ⟨bd, 0, none⟩ = false := by rw [World.frozen?_setCell]; exact fd
  go_enter Tryd.func31, Tryd.ntmps31
  go_wp2
  go_end0
  exact ⟨rfl, rfl⟩
/-- What publish lays: the pointer, the state, 'first'. -/
theorem pub_boxes (w : World) (b : Nat) (s : Int) : ∃ M0 M, (((w.alloc (.cells #[ptrV b] 56)).alloc (.cells #[.int .i64 s] 3)).alloc (.cells #[.bool false] 4)) = M0 ∧ M0.setCell ⟨w.heap.size + 1 + 1, 0, none⟩ (.bool false) = M ∧ M0.cell? ⟨w.heap.size + 1 + 1, 0, none⟩ = some (.bool false) ∧ M0.frozen? ⟨w.heap.size + 1 + 1, 0, none⟩ = false ∧
    M.cell? ⟨w.heap.size, 0, none⟩ = some (ptrV b) ∧ M.cell? ⟨w.heap.size + 1, 0, none⟩ = some (.int .i64 s) ∧ M.cell? ⟨w.heap.size + 1 + 1, 0, none⟩ = some (.bool false) ∧ M.frozen? ⟨w.heap.size + 1 + 1, 0, none⟩ = false ∧ Keep (fun _ => False) w M ∧ M.heap.size = w.heap.size + 3 := by
  obtain ⟨w1, e1⟩ : ∃ w1, w.alloc (.cells #[ptrV b] 56) = w1 := ⟨_, rfl⟩
  have s1 : w1.heap.size = w.heap.size + 1 := by rw [← e1]; simp
  have a0 : w1.cell? ⟨w.heap.size, 0, none⟩ = some (ptrV b) := by rw [← e1]; simp
  have k1 : Keep (fun _ => False) w w1 := by rw [← e1]; exact (Keep.refl _ _).alloc _
  rw [e1]
  obtain ⟨w2, e2⟩ : ∃ w2, w1.alloc (.cells #[.int .i64 s] 3) = w2 := ⟨_, rfl⟩
  have s2 : w2.heap.size = w.heap.size + 1 + 1 := by rw [← e2, World.size_alloc, s1]
  have a1 : w2.cell? ⟨w.heap.size + 1, 0, none⟩ = some (.int .i64 s) := by rw [← e2, ← s1]; simp
  have k2 : Keep (fun _ => False) w1 w2 := by rw [← e2]; exact (Keep.refl _ _).alloc _
  rw [e2]
  obtain ⟨w3, e3⟩ : ∃ w3, w2.alloc (.cells #[.bool false] 4) = w3 := ⟨_, rfl⟩
  have s3 : w3.heap.size = w.heap.size + 3 := by rw [← e3, World.size_alloc, s2]
  have a2 : w3.cell? ⟨w.heap.size + 1 + 1, 0, none⟩ = some (.bool false) := by rw [← e3, ← s2]; simp
  have f2 : w3.frozen? ⟨w.heap.size + 1 + 1, 0, none⟩ = false := by rw [← e3, ← s2]; simp
  have k3 : Keep (fun _ => False) w2 w3 := by rw [← e3]; exact (Keep.refl _ _).alloc _
  have k4 := keep_one w3 ⟨w.heap.size + 1 + 1, 0, none⟩ (.bool false)
  have kk := (k1.trans k2).trans k3
  refine ⟨_, _, e3, rfl, a2, f2, k4.cell (k3.cell (k2.cell a0 id) id) (show ¬ w.heap.size = w.heap.size + 1 + 1 by omega), k4.cell (k3.cell a1 id) (show ¬ w.heap.size + 1 = w.heap.size + 1 + 1 by omega), World.cell?_setCell_same _ _ _ a2, by rw [World.frozen?_setCell]; exact f2, kk.older k4 (fun j e => by have e : j = w.heap.size + 1 + 1 := e; omega), by simpa [World.setCell] using s3⟩
set_option maxRecDepth 100000 in
theorem publish_no (H : HsAt w h o B va K z) (hb : B[i]? = some b) (s : Int) (hs : (z.at' i).state ≠ 1) : Calls Tryd.prog 26 #[ptrV b, .int .i64 s] w fun e w' => e = .returned (.bool false) ∧ Keep (fun _ => False) w w' := by
  obtain ⟨M0, M, eM, eM2, g2, gf2, m0, m1, m2, f2, kM, sM⟩ := pub_boxes w b s
  obtain ⟨u, q⟩ := (H.quiet kM).tx i b hb
  have c4 := q.ce.c4
  rw [show dnT (z.at' i).state = 1 by unfold dnT; rw [if_neg hs]] at c4
  have on := once_done b 4 (.func (.func 31) #[] #[.pointer (some ⟨w.heap.size + 1, 0, none⟩), .pointer (some ⟨w.heap.size, 0, none⟩), .pointer (some ⟨w.heap.size + 1 + 1, 0, none⟩)]) M c4
  have KM := Lib.hid kM
  unfold ptrV at m0 eM ⊢
  clear q c4 H hb hs kM sM m1 f2
  go_enter Tryd.func26, Tryd.ntmps26
  go_wp2_with fail
  refine on.mono ?_
  rintro e w2 ⟨rfl, rfl⟩
  clear on eM eM2 g2 gf2
  go_wp2
  go_ret
  exact ⟨rfl, KM.out⟩
set_option maxRecDepth 100000 in
theorem publish_yes (H : HsAt w h o B va K z) (hb : B[i]? = some b) (s : Int) (hs : (z.at' i).state = 1) (hs1 : s ≠ 1) :
    Calls Tryd.prog 26 #[ptrV b, .int .i64 s] w fun e w' => e = .returned (.bool true) ∧ HsTo w h o K (z.put i { z.at' i with state := s }) w' := by
  obtain ⟨M0, M, eM, eM2, g2, gf2, m0, m1, m2, f2, kM, sM⟩ := pub_boxes w b s
  have HM := H.quiet kM
  obtain ⟨u, q⟩ := HM.tx i b hb
  have c4 := q.ce.c4
  rw [show dnT (z.at' i).state = 0 by unfold dnT; rw [if_pos hs]] at c4
  have ob := q.ob
  have lb : b < w.heap.size := H.fr b (by rw [ob]; omega)
  have o0 : ∀ j, w.heap.size ≤ j → o j = 0 := fun j hj => Decidable.byContradiction fun c => by have := H.fr j c; omega
  obtain ⟨M3, e3⟩ : ∃ M3, M.setCell ⟨b, 4 + 1, none⟩ (.int .i32 1) = M3 := ⟨_, rfl⟩
  have k3 : Keep (fun g => g = b) M M3 := by rw [← e3]; exact keep_one M ⟨b, 4 + 1, none⟩ _
  have c43 : M3.cell? ⟨b, 4, none⟩ = some (.int .u32 0) := by rw [← e3, World.cell?_setCell_other _ _ _ _ (by simp)]; exact c4
  have c53 : M3.cell? ⟨b, 4 + 1, none⟩ = some (.int .i32 1) := by rw [← e3]; exact World.cell?_setCell_same _ _ _ q.ce.c5
  have c73 : M3.cell? ⟨b, 7, none⟩ = some (.int .i64 (z.at' i).state) := by rw [← e3, World.cell?_setCell_other _ _ _ _ (by simp)]; exact q.ce.c7
  have f3 : ∀ j, M3.frozen? ⟨b, j, none⟩ = false := fun j => by rw [← e3, World.frozen?_setCell]; exact q.ce.fz j
  have nd : w.heap.size + 1 + 1 ≠ b := by omega
  have P := pub1_any (w := M3) (w.heap.size + 1) w.heap.size (w.heap.size + 1 + 1) b s (k3.cell m1 (show ¬ w.heap.size + 1 = b by omega)) (k3.cell m0 (show ¬ w.heap.size = b by omega)) c73 (f3 7) (k3.cell m2 nd) ((k3.frozen (a := ⟨w.heap.size + 1 + 1, 0, none⟩) (lt_of_cell m2) nd).trans f2) nd
  obtain ⟨M4, e4⟩ : ∃ M4, (M3.setCell ⟨b, 7, none⟩ (.int .i64 s)).setCell ⟨w.heap.size + 1 + 1, 0, none⟩ (.bool true) = M4 := ⟨_, rfl⟩
  rw [e4] at P
  have nd' : ∀ j, (⟨w.heap.size + 1 + 1, 0, none⟩ : Addr) ≠ ⟨b, j, none⟩ := fun j e => nd (congrArg Addr.block e)
  have at4 : ∀ (j : Nat) (v : Value), j ≠ 7 → M3.cell? ⟨b, j, none⟩ = some v → M4.cell? ⟨b, j, none⟩ = some v := fun j v hj hv => by rw [← e4, World.cell?_setCell_other _ _ _ _ (nd' j), World.cell?_setCell_other _ _ _ _ (fun e => hj (congrArg Addr.off e).symm)]; exact hv
  have c74 : M4.cell? ⟨b, 7, none⟩ = some (.int .i64 s) := by rw [← e4, World.cell?_setCell_other _ _ _ _ (nd' 7)]; exact World.cell?_setCell_same _ _ _ c73
  have cd4 : M4.cell? ⟨w.heap.size + 1 + 1, 0, none⟩ = some (.bool true) := by rw [← e4]; exact World.cell?_setCell_same _ _ _ ((World.cell?_setCell_other _ _ _ _ (fun e => nd' 7 e.symm)).trans (k3.cell m2 nd))
  have f4 : ∀ j, M4.frozen? ⟨b, j, none⟩ = false := fun j => by rw [← e4, World.frozen?_setCell, World.frozen?_setCell]; exact f3 j
  have on := once_firstL b 4 #[.pointer (some ⟨w.heap.size + 1, 0, none⟩), .pointer (some ⟨w.heap.size, 0, none⟩), .pointer (some ⟨w.heap.size + 1 + 1, 0, none⟩)] (fun w2 => w2 = M4) M c4 q.ce.c5 (q.ce.fz 5) (by
    rw [e3]
    refine P.mono ?_
    rintro e w2 ⟨rfl, rfl⟩
    exact ⟨rfl, rfl, at4 4 _ (by decide) c43, at4 5 _ (by decide) c53, f4 4, f4 5⟩)
  obtain ⟨F, eF⟩ : ∃ F, (M4.drew.setCell ⟨b, 4, none⟩ (.int .u32 1)).setCell ⟨b, 4 + 1, none⟩ (.int .i32 0) = F := ⟨_, rfl⟩
  have kF2 : Keep (fun g => g = b ∨ w.heap.size ≤ g) M F := by
    have k4 : Keep (fun g => g = b ∨ w.heap.size ≤ g) M3 M4 := by rw [← e4]; exact ((Keep.refl (fun g => g = b ∨ w.heap.size ≤ g) M3).setCell (p := ⟨b, 7, none⟩) (.inl rfl) _).setCell (p := ⟨w.heap.size + 1 + 1, 0, none⟩) (.inr (show w.heap.size ≤ w.heap.size + 1 + 1 by omega)) _
    rw [← eF]
    exact ((((k3.mono fun g e => .inl e).trans k4).drew).setCell (p := ⟨b, 4, none⟩) (.inl rfl) _).setCell (p := ⟨b, 4 + 1, none⟩) (.inl rfl) _
  have kF : Keep (fun g => g = b ∨ o g = 0) M F := kF2.mono fun g e => e.imp id (o0 g)
  have atF : ∀ (j : Nat) (v : Value), j ≠ 4 → j ≠ 5 → M4.cell? ⟨b, j, none⟩ = some v → F.cell? ⟨b, j, none⟩ = some v := fun j v h1 h2 hv => by
    rw [← eF, World.cell?_setCell_other _ _ _ _ (fun e => h2 (congrArg Addr.off e).symm), World.cell?_setCell_other _ _ _ _ (fun e => h1 (congrArg Addr.off e).symm)]
    exact hv
  have at3 : ∀ (j : Nat) (v : Value), j ≠ 5 → M.cell? ⟨b, j, none⟩ = some v → M3.cell? ⟨b, j, none⟩ = some v := fun j v h1 hv => by
    rw [← e3, World.cell?_setCell_other _ _ _ _ (fun e => h1 (congrArg Addr.off e).symm)]
    exact hv
  have HF := HM.turn (t := { z.at' i with state := s }) hb kF (fun g e => e) rfl (fun u c => ⟨atF 0 _ (by decide) (by decide) (at4 0 _ (by decide) (at3 0 _ (by decide) c.c0)), atF 1 _ (by decide) (by decide) (at4 1 _ (by decide) (at3 1 _ (by decide) c.c1)), atF 2 _ (by decide) (by decide) (at4 2 _ (by decide) (at3 2 _ (by decide) c.c2)), atF 3 _ (by decide) (by decide) (at4 3 _ (by decide) (at3 3 _ (by decide) c.c3)), by
      rw [show dnT ({ z.at' i with state := s } : TnI).state = 1 by unfold dnT; rw [if_neg hs1], ← eF, World.cell?_setCell_other _ _ _ _ (by simp)]
      exact World.cell?_setCell_same _ _ _ (u := .int .u32 0) (at4 4 _ (by decide) c43), by
      rw [← eF]
      exact World.cell?_setCell_same _ _ _ (u := .int .i32 1) (by rw [World.cell?_setCell_other _ _ _ _ (by simp)]; exact at4 5 _ (by decide) c53), atF 7 _ (by decide) (by decide) c74, fun j => by rw [← eF, World.frozen?_setCell, World.frozen?_setCell]; exact f4 j⟩)
  have KF : Keep (fun g => o g ≠ 0) w F := by
    have k : Keep (fun g => g = b ∨ w.heap.size ≤ g) w F := (kM.mono fun _ e => e.elim).trans (kF2)
    refine ⟨k.os, k.tape, k.output, k.size, fun j hj hn => k.block j hj fun c => ?_⟩
    rcases c with c | c
    · exact hn (by rw [c, ob]; omega)
    · omega
  have FIN := Lib.hid (show HsTo w h o K (z.put i { z.at' i with state := s }) F from ⟨o, B, va, HF, KF, fun g hg => .inl hg⟩)
  have cdF : F.cell? ⟨w.heap.size + 1 + 1, 0, none⟩ = some (.bool true) := by rw [← eF, World.cell?_setCell_other _ _ _ _ (fun e => nd' _ e.symm), World.cell?_setCell_other _ _ _ _ (fun e => nd' _ e.symm)]; exact cd4
  have EF := Lib.hid eF
  unfold ptrV at m0 eM ⊢
  clear q c4 H HM hb hs kM sM m1 f2 P e3 e4 k3 c43 c53 c73 f3 at4 c74 cd4 f4 eF kF kF2 atF at3 HF KF nd nd' lb ob o0 m2
  go_enter Tryd.func26, Tryd.ntmps26
  go_wp2_with fail
  refine on.mono ?_
  rintro e w2 ⟨rfl, wx, rfl, rfl⟩
  clear on eM eM2 g2 gf2
  rw [EF.out]
  go_wp2
  go_ret
  exact ⟨rfl, FIN.out⟩
end
end Go.Proofs.YtalkfnblnlcklaaDoor
