/- Proved here: vinculumlaw9.ChainOrders returns true and leaves its arguments as they were, for any two ints; no further condition. -/
import Derived.Test.YtagboodnbgpnkaaChD
import Derived.Test.YtagboodnbgpnkaaChO
import Derived.Test.YtagboodnbgpnkaaApp
import Derived.Test.YtagboodnbgpnkaaMask
import Derived.ChangeOld
import Derived.Deep.CutRange
import Derived.Deep.CutBlock
import Derived.Deep.LoopGhost
import Derived.Deep.QuietTactic
import Derived.BigQuiet
namespace Go.Proofs.Ytagboodnbgpnkaa.chainOrders
open Go.ChangeShapes Go.WideShapes Go.ChangeAt Go.RowKit
set_option linter.unusedVariables false

theorem fl_dn : ∀ k, fl (fun _ => true) (k + 1) = ((k : Int) + 1) :: fl (fun _ => true) k := fun k => by
  show (if true = true then _ else _) = _
  rw [if_pos rfl]
def all (_ : Nat) : Bool := true
def Rel (w : World) (p q n j : Nat) (v i : Value) (wr : World) : Prop :=
  ∃ S s, j ≤ n ∧ i = .int .i64 j ∧ ChU w wr p q S s (fl all j) (1000 + 3000 * j) v (upTo j) ∧ Fill s 50 j
/-- A Chain, a list of words and one of bools, all of the law's own. -/
structure ChB (W w : World) (p q : Nat) (S : Nat → Prop) (s : RS) (l : List Int) (k : Nat) (v : Value) (zs : List Int) (hv : Value) (hs : List Bool) : Prop where
  U : ChU W w p q S s l k v zs
  ho : Own Value.bool 4 w hv hs
  hd : ∀ g, hv.ownBlock = some g → ¬ S g ∧ v.ownBlock ≠ some g ∧ W.heap.size ≤ g
section
variable {W w w' : World} {p q : Nat} {S S' : Nat → Prop} {s s' : RS} {l l' : List Int} {k k' : Nat} {v : Value} {zs : List Int} {hv : Value} {hs : List Bool}
theorem ChB.step (h : ChB W w p q S s l k v zs hv hs) (hr : Chn W w' p q S' s' l' k') (kk : VKeep S S' w w') : ChB W w' p q S' s' l' k' v zs hv hs :=
  ⟨h.U.step hr kk, h.ho.keep kk.1 (fun g hg => (h.hd g hg).1), fun g hg => ⟨fun x => by
    rcases kk.2 g x with y | y
    · exact (h.hd g hg).1 y
    · have := h.ho.lt hg; omega, (h.hd g hg).2⟩⟩
theorem ChB.quiet (h : ChB W w p q S s l k v zs hv hs) (kk : Keep (fun _ => False) w w') : ChB W w' p q S s l k v zs hv hs := ⟨h.U.quiet kk, h.ho.keep kk (by simp), h.hd⟩
theorem ChB.set {g n c : Nat} (h : ChB W w p q S s l k v zs (.slice (some ⟨g, 0, none⟩) n c) hs) (i : Nat) (b : Bool) : ChB W (w.setCell ⟨g, i, none⟩ (.bool b)) p q S s l k v zs (.slice (some ⟨g, 0, none⟩) n c) (hs.set i b) := by
  have hd := h.hd g rfl
  have kk : Keep (fun j => j = g) w (w.setCell ⟨g, i, none⟩ (.bool b)) := keep_one w ⟨g, i, none⟩ (.bool b)
  exact ⟨⟨h.U.r.own kk (fun x hx => by rw [hx]; exact ⟨hd.1, hd.2.2⟩), OwnU.keep h.U.ow kk (fun x hx e => hd.2.1 (by rw [hx, e])), h.U.dv⟩, h.ho.set i b, h.hd⟩
end
theorem info_b : (Try.prog.info? 4).map (fun i => (i.zero, i.size, i.bytes)) = some (some (.bool false), 1, 1) := by kernel_rfl
theorem own_madeB {w : World} {base g n : Nat} (h : w.ownsRow base 4 1 (.slice (some ⟨g, 0, none⟩) n n) n (madeCells #[.bool false] n).toList) : Own Value.bool 4 w (.slice (some ⟨g, 0, none⟩) n n) (List.replicate n false) := by
  have e : (madeCells #[.bool false] n).toList = List.replicate n (.bool false) := toList_madeCells_one _ _
  rw [e] at h
  exact Own.of_base h (by simp) (by simp)
theorem keep_grownB {w w' : World} (h : w.grownBy w' none) (S : Nat → Prop) : Keep S w w' := ⟨h.os, h.tape, h.output, h.size, fun k hk _ => h.block k hk (by simp)⟩
theorem getD_setB (l : List Bool) (i j : Nat) (b : Bool) (h : i < l.length) : (l.set i b).getD j false = if i = j then b else l.getD j false := by
  simp only [List.getD_eq_getElem?_getD, List.getElem?_set]
  by_cases e : i = j
  · subst e; simp [h]
  · simp [e]
/-- So many of them are set. -/
def Rel5 (w : World) (p q n K B : Nat) (cs : List Bool) (S : Nat → Prop) (st : RS) (v : Value) (gh : Nat) (vl : Value) (mm jj : Nat) (j i : Value) (wr : World) : Prop :=
  mm ≤ n ∧ i = .int .i64 ((mm : Int) - 1) ∧ j = .int .i64 jj ∧ Split (fun i => cs.getD i false) n mm jj ∧ ChB w wr p q S st (fl (fun i => cs.getD i false) n) K v (upTo n) (.slice (some ⟨gh, 0, none⟩) n n) cs ∧ OwnU B wr vl (fl (fun i => cs.getD i false) n)
theorem out5 {B : Nat} {w : World} {v : Value} {zs : List Int} (h : OwnU B w v zs) : ∃ A c, v = .slice A zs.length c ∧ (A = none → zs = []) ∧ ∀ ad, A = some ad → ∃ g, ad = ⟨g, 0, none⟩ := by
  rcases h.shape with ⟨h1, h2⟩ | ⟨g, c, h1, _⟩
  · exact ⟨none, 0, by rw [h1, h2]; rfl, fun _ => h2, fun ad h => by cases h⟩
  · exact ⟨_, c, h1, fun h => (by cases h), fun ad h => by cases h; exact ⟨g, rfl⟩⟩
theorem getD_eqB (l : List Bool) (i : Nat) (h : i < l.length) : l[i] = l.getD i false := by simp [List.getD_eq_getElem?_getD, h]
def Rel2 (w : World) (p q n K j : Nat) (v : Value) (gh : Nat) (i : Value) (wr : World) : Prop :=
  ∃ S s hs, j ≤ n ∧ i = .int .i64 j ∧ ChB w wr p q S s (fl all n) K v (upTo n) (.slice (some ⟨gh, 0, none⟩) n n) hs ∧ hs.length = n ∧ ∀ x, x < j → hs.getD x false = true
/-- m are left. -/
def Rel3 (w : World) (p q n m : Nat) (v : Value) (gh : Nat) (k left : Value) (wr : World) : Prop :=
  ∃ S s hs kk, m ≤ n ∧ left = .int .i64 m ∧ k = .int .i64 ((kk : Nat) : Int) ∧ kk < n ∧ ChB w wr p q S s (fl (fun i => hs.getD i false) n) (200000 + 3000 * (n - m)) v (upTo n) (.slice (some ⟨gh, 0, none⟩) n n) hs ∧ hs.length = n ∧ (fl (fun i => hs.getD i false) n).length = m
set_option maxRecDepth 100000 in
set_option maxHeartbeats 8000000 in
theorem walk (a0 a1 : Int) (w : World) (w0 : (Lit.int .i64 a0).wf = true) (w1 : (Lit.int .i64 a1).wf = true) :
    Calls Try.prog 5 #[.int .i64 a0, .int .i64 a1] w fun e w' => e = .returned (.bool true) ∧ Below w.heap.size w w' := by
  have h0 := i64_mask8 a0
  have h1 := i64_mask8 a1
  obtain ⟨q0, eq0⟩ : ∃ q, a0 % 256 = q := ⟨_, rfl⟩
  obtain ⟨t, et⟩ : ∃ t, a1 % 256 = t := ⟨_, rfl⟩
  obtain ⟨n, en⟩ : ∃ n : Nat, q0 % 40 + 1 = (n : Int) := ⟨(q0 % 40 + 1).toNat, by omega⟩
  have nb : 1 ≤ n ∧ n ≤ 40 := by omega
  have tb : 0 ≤ t ∧ t ≤ 255 := by omega
  rw [eq0] at h0
  rw [et] at h1
  have e0 : q0.tmod 40 = q0 % 40 := Int.tmod_eq_emod_of_nonneg (by omega)
  have wq : IntKind.i64.wrap (q0 % 40) = q0 % 40 := IntWalk.i64_in _ (by omega)
  have wq2 : IntKind.i64.wrap (q0 % 40 + 1) = (n : Int) := by rw [IntWalk.i64_in _ (by omega)]; exact en
  have n0 : ¬ (n : Int) = 0 := by omega
  clear eq0 et w0 w1
  go_enter Try.func5, Try.ntmps5
  go_wp2_with fail
  refine (made_any 50 (by omega) (by omega) _).mono ?_
  rintro e y1 ⟨p, q, S1, rfl, C1⟩
  go_wp2
  go_loopw [7, 8, 9, 10] (fun v i a e wr => ∃ j : Nat, Rel w p q n j v i wr) (fun _ i _ _ _ => n - (intOf i).toNat)
  case atStart => exact ⟨0, S1, RS.new 50, Nat.zero_le _, rfl, ChU.start C1, fill_new 50⟩
  case round =>
    obtain ⟨j, S, s, jl, rfl, U, F⟩ := hrel
    clear C1
    by_cases hlt : j < n
    · obtain ⟨s1, hmk, F1, _, _⟩ := F.make U.r.ok (by omega) j j 1 2 (by omega) (by omega) (by omega) (by omega)
      have wk : IntKind.i64.wrap ((j : Int) + 1) = (j : Int) + 1 := IntWalk.i64_in _ (by omega)
      have len := upTo_len j
      have fln := fl_len (bs := all) j
      go_wp2_with fail
      refine (h_make U.r (by omega) _ _ 1 2 ⟨by omega, by omega⟩ ⟨by omega, by omega⟩ _ _ _ hmk).mono ?_
      rintro e y2 ⟨rfl, S2, C2, k2⟩
      have U2 := U.step C2 k2
      have hps : pushI s1.s (fl all j) ((j : Int) + 1) = (true, fl all (j + 1)) := by
        unfold pushI
        rw [if_pos ⟨F1.live C2.ok j (by omega) (by omega), fun h => by obtain ⟨i, h1, _, h3⟩ := (fl_mem j _).1 h; omega⟩]
        rfl
      have hin : (j : Int) + 1 ∈ fl all (j + 1) := (fl_mem (j + 1) _).2 ⟨j, by omega, rfl, rfl⟩
      have fln1 := fl_len (bs := all) (j + 1)
      have hps2 : ∀ t : St, pushI t (fl all (j + 1)) ((j : Int) + 1) = (false, fl all (j + 1)) := fun t => by unfold pushI; rw [if_neg (fun h => h.2 hin)]
      clear C2 k2 hmk U hin
      go_wp2_with fail
      refine (h_push U2.r (by omega) (by omega) _ ⟨by omega, by omega⟩ true (fl all (j + 1)) hps).mono ?_
      rintro e y3 ⟨rfl, S3, s3, e3, C3, k3⟩
      have U3 := U2.step C3 k3
      have F3 := F1.same e3
      clear C3 k3 U2 F1 hps
      go_wp2_with fail
      refine (h_push U3.r (by omega) (by omega) _ ⟨by omega, by omega⟩ false (fl all (j + 1)) (hps2 _)).mono ?_
      rintro e y4 ⟨rfl, S4, s4, e4, C4, k4⟩
      have U4 := U3.step C4 k4
      have F4 := F3.same e4
      clear C4 k4 U3 F3 hps2 e3 e4
      go_wp2_with (with_reducible refine wp_stop 56 rfl ?_)
      intro _
      refine wp_push rfl (.tmp 53) (.tmp 55) rfl w.heap.size U4.r.b.size u7 (upTo j) rfl U4.ow ((j : Int) + 1) rfl (by omega) ?_
      intro g c w5 o5 k5 hg
      rw [len] at o5 ⊢
      have U5 := U4.anew o5 k5 (fun x hx => .inl hx) (fun x hx => by simp [Value.ownBlock] at hx; rw [← hx]; exact hg)
      go_wp2
      go_roundw
      case rel => exact ⟨j + 1, S4, s4, by omega, by go_num, by rw [upTo_succ]; exact U5.up (by omega), F4⟩
      case measure => simp [intOf]; omega
    · obtain rfl : n = j := by omega
      rcases U.ow.shape with ⟨_, ez⟩ | ⟨gl, c, rfl, glB, gll, hc⟩
      · have := congrArg List.length ez; rw [upTo_len] at this; simp at this; omega
      rw [upTo_len] at hc ⊢
      obtain ⟨i0, hi, hz0, hz1, hz2⟩ := info_parts info_b
      clear hlt jl h0 F
      have U : ChU w wr p q S s (fl all n) (1000 + 3000 * n) (.slice (some ⟨gl, 0, none⟩) n c) (upTo n) := by rw [upTo_len] at U; exact U
      go_wp2_with (with_reducible refine wpList_make_full _ rfl (.tmp 57) (.tmp 57) 44 rfl wr.heap.size 4 i0 (.bool false) 1 Try.underlying44 hi hz0 hz1 .i64 .i64 (n : Int) (n : Int) n rfl rfl rfl rfl (by rw [hz2]; omega) (by unfold maxLen; omega) (Nat.le_refl _) ?_)
      intro x1 o1 gr1
      have o1 := own_madeB o1
      have k1 := keep_grownB gr1 (fun _ => False)
      have B1 : ChB w x1 p q S s (fl all n) (1000 + 3000 * n) (.slice (some ⟨gl, 0, none⟩) n c) (upTo n) (.slice (some ⟨wr.heap.size, 0, none⟩) n n) (List.replicate n false) :=
        ⟨U.quiet k1, o1, fun g hg => by
          simp [Value.ownBlock] at hg
          subst hg
          exact ⟨fun x => by have := U.r.lt _ x; omega, by simp [Value.ownBlock]; omega, U.r.b.size⟩⟩
      clear o1 gr1 k1 U hi hz0 hz1 hz2
      obtain ⟨gh, egh⟩ : ∃ g, wr.heap.size = g := ⟨_, rfl⟩
      rw [egh] at B1 gll ⊢
      clear egh
      obtain ⟨K, eK⟩ : ∃ K, 1000 + 3000 * n = K := ⟨_, rfl⟩
      have hK : K ≤ 150000 := by omega
      rw [eK] at B1
      clear eK
      go_wp2
      go_loopw [61, 12] (fun i i2 wx => ∃ j : Nat, Rel2 w p q n K j (.slice (some ⟨gl, 0, none⟩) n c) gh i wx) (fun i _ _ => n - (intOf i).toNat)
      case atStart => exact ⟨0, S, s, _, Nat.zero_le _, rfl, B1, by simp, fun x hx => absurd hx (Nat.not_lt_zero x)⟩
      case round =>
        obtain ⟨j, S2, s2, hs, jl, rfl, B2, hl, hall⟩ := hrel
        clear B1
        by_cases hlt : j < n
        · have wk : IntKind.i64.wrap ((j : Int) + 1) = (j : Int) + 1 := IntWalk.i64_in _ (by omega)
          have wr0 : IntKind.i64.wrap (j : Int) = (j : Int) := IntWalk.i64_in _ (by omega)
          have cj := B2.ho.cell j (by omega)
          have fj := B2.ho.free j
          have B3 := B2.set j true
          have hn3 : ∀ x, x < j + 1 → (hs.set j true).getD x false = true := fun x hx => by
            rw [getD_setB hs j x true (by omega)]
            split
            · rfl
            · exact hall x (by omega)
          go_wp2
          go_roundw
          case rel => exact ⟨j + 1, S2, s2, hs.set j true, by omega, by go_num, B3, by simp [hl], hn3⟩
          case measure => simp [intOf]; omega
        · obtain rfl : n = j := by omega
          have hfl : fl all n = fl (fun i => hs.getD i false) n := fl_same n (fun i hi => (hall i hi).symm)
          have hln : (fl (fun i => hs.getD i false) n).length = n := fl_all n hall
          rw [hfl] at B2
          have B2 : ChB w wr p q S2 s2 (fl (fun i => hs.getD i false) n) (200000 + 3000 * (n - n)) (.slice (some ⟨gl, 0, none⟩) n c) (upTo n) (.slice (some ⟨gh, 0, none⟩) n n) hs := ⟨B2.U.up (by omega), B2.ho, B2.hd⟩
          clear hfl hall hlt jl
          go_wp2
          go_loopw [13, 14, 15, 16, 17] (fun k left a b d wx => ∃ m : Nat, Rel3 w p q n m (.slice (some ⟨gl, 0, none⟩) n c) gh k left wx) (fun _ left _ _ _ _ => (intOf left).toNat)
          case atStart => exact ⟨n, S2, s2, hs, 0, Nat.le_refl _, rfl, rfl, by omega, B2, hl, hln⟩
          case round =>
            obtain ⟨m, S3, s3, bs, kk, hm, rfl, rfl, hkk, B3, hb, hbl⟩ := hrel
            clear B2 hl hln
            by_cases hm0 : m = 0
            · subst hm0
              have hnil := fl_none n hbl
              rw [hnil] at B3
              clear hbl hnil
              go_wp2_with fail
              refine (h_head B3.U.r (by omega) (by simp) 0 rfl).mono ?_
              rintro e y5 ⟨rfl, S5, s5, e5, C5, k5⟩
              have B3 := B3.step C5 k5
              go_wp2_with fail
              refine (h_len B3.U.r (by omega) (by simp) 0 rfl).mono ?_
              rintro e y6 ⟨rfl, S6, s6, e6, C6, k6⟩
              have B3 := B3.step C6 k6
              go_wp2_with fail
              refine (awake9_any _).mono ?_
              rintro e y7 ⟨rfl, b7⟩
              go_wp2
              go_ret
              exact ⟨rfl, B3.U.r.b.trans (b7.mono B3.U.r.b.size)⟩
            · obtain ⟨i0, hi0, hbi0⟩ := fl_some (bs := fun i => bs.getD i false) (k := n) (by omega)
              have mp : 0 < m := by omega
              have mp2 : (0 : Int) < (m : Int) := by omega
              obtain ⟨k1, ek1⟩ : ∃ k1 : Nat, ((kk : Int) + t) % (n : Int) = (k1 : Int) := ⟨(((kk : Int) + t) % (n : Int)).toNat, by have := Int.emod_nonneg ((kk : Int) + t) (show (n : Int) ≠ 0 by omega); omega⟩
              have hk1 : k1 < n := by have := Int.emod_lt_of_pos ((kk : Int) + t) (show (0 : Int) < (n : Int) by omega); omega
              have wkt : IntKind.i64.wrap ((kk : Int) + t) = (kk : Int) + t := IntWalk.i64_in _ (by omega)
              have ekt : ((kk : Int) + t).tmod (n : Int) = (k1 : Int) := by rw [Int.tmod_eq_emod_of_nonneg (by omega)]; exact ek1
              have wk1 : IntKind.i64.wrap (k1 : Int) = (k1 : Int) := IntWalk.i64_in _ (by omega)
              clear ek1
              go_wp2
              go_loop [13] (fun k => ∃ k2 : Nat, k2 < n ∧ k = .int .i64 k2) (fun k => far n i0 (intOf k).toNat)
              case atStart => exact ⟨k1, hk1, rfl⟩
              case round =>
                obtain ⟨k2, hk2, rfl⟩ := hrel
                have ck := B3.ho.cell k2 (by omega)
                rw [getD_eqB bs k2 (by omega)] at ck
                have k2i : (k2 : Int) < (n : Int) := by omega
                cases hbk : bs.getD k2 false with
                | false =>
                  rw [hbk] at ck
                  have wk2 : IntKind.i64.wrap ((k2 : Int) + 1) = (k2 : Int) + 1 := IntWalk.i64_in _ (by omega)
                  have e3 : ((k2 : Int) + 1).tmod (n : Int) = (((k2 + 1) % n : Nat) : Int) := by rw [Int.tmod_eq_emod_of_nonneg (by omega)]; push_cast; rfl
                  have hk3 : (k2 + 1) % n < n := Nat.mod_lt _ (by omega)
                  have wk3 : IntKind.i64.wrap ((((k2 + 1) % n : Nat)) : Int) = (((k2 + 1) % n : Nat) : Int) := IntWalk.i64_in _ (by omega)
                  have hfar := far_next hi0 hk2 (fun e => by subst e; rw [hbi0] at hbk; cases hbk)
                  obtain ⟨k3, ek3⟩ : ∃ k3, (k2 + 1) % n = k3 := ⟨_, rfl⟩
                  rw [ek3] at e3 hk3 wk3 hfar
                  clear ek3
                  go_wp2
                  go_round
                  case rel => exact ⟨k3, hk3, rfl⟩
                  case measure => simpa [intOf] using hfar
                | true =>
                  rw [hbk] at ck
                  have fk := B3.ho.free k2
                  have B4 := B3.set k2 false
                  have ln4 : (bs.set k2 false).length = n := by simp [hb]
                  have hoff : fl (off (fun i => bs.getD i false) k2) n = fl (fun i => (bs.set k2 false).getD i false) n := fl_same n (fun i hi => by
                    show off _ k2 i = (bs.set k2 false).getD i false
                    rw [getD_setB bs k2 i false (by omega)]
                    unfold off
                    by_cases e : i = k2
                    · rw [if_pos e, if_pos e.symm]
                    · rw [if_neg e, if_neg (fun x => e x.symm)])
                  have her := fl_off (bs := fun i => bs.getD i false) hbk n hk2
                  rw [hoff] at her
                  have hin := (fl_in (bs := fun i => bs.getD i false) hk2).2 hbk
                  have hnot : ¬ ((k2 : Int) + 1 ∈ fl (fun i => (bs.set k2 false).getD i false) n) := fun h => by
                    have := (fl_in (bs := fun i => (bs.set k2 false).getD i false) hk2).1 h
                    rw [getD_setB bs k2 k2 false (by omega), if_pos rfl] at this
                    cases this
                  have hlen : (fl (fun i => (bs.set k2 false).getD i false) n).length = m - 1 := by rw [← her, List.length_erase_of_mem hin, hbl]
                  obtain ⟨cs, ecs⟩ : ∃ cs, bs.set k2 false = cs := ⟨_, rfl⟩
                  rw [ecs] at B4 ln4 her hnot hlen
                  have hc1 : cutI (fl (fun i => bs.getD i false) n) ((k2 : Int) + 1) = (true, fl (fun i => cs.getD i false) n) := by unfold cutI; rw [if_pos hin, her]
                  have hc2 : cutI (fl (fun i => cs.getD i false) n) ((k2 : Int) + 1) = (false, fl (fun i => cs.getD i false) n) := by unfold cutI; rw [if_neg hnot]
                  have cl := OwnU.cell B4.U.ow k2 (by rw [upTo_len]; exact hk2)
                  rw [upTo_get n k2 hk2] at cl
                  have km : k2 + 1 ≤ n := by omega
                  clear hoff her hin hnot ecs B3 hbi0
                  obtain ⟨KK, eKK⟩ : ∃ K, 200000 + 3000 * (n - m) = K := ⟨_, rfl⟩
                  rw [eKK] at B4
                  have hKK : KK ≤ 400000 := by omega
                  go_wp2_with fail
                  refine (h_cut B4.U.r (by omega) (by omega) _ ⟨by omega, by omega⟩ true _ hc1).mono ?_
                  rintro e y5 ⟨rfl, S5, s5, e5, C5, k5⟩
                  have B5 := B4.step C5 k5
                  have cl := OwnU.cell B5.U.ow k2 (by rw [upTo_len]; exact hk2)
                  rw [upTo_get n k2 hk2] at cl
                  clear C5 k5 B4 e5
                  go_wp2_with fail
                  refine (h_cut B5.U.r (by omega) (by omega) _ ⟨by omega, by omega⟩ false _ hc2).mono ?_
                  rintro e y6 ⟨rfl, S6, s6, e6, C6, k6⟩
                  have B6 := B5.step C6 k6
                  clear C6 k6 B5 e6 cl hc1 hc2
                  go_wp2_with fail
                  refine (h_links B6.U.r (by omega) (by omega)).mono ?_
                  rintro e y7 ⟨vl, S7, s7, rfl, o7, d7, e7, C7, k7⟩
                  have B7 := B6.step C7 k7
                  clear C7 k7 B6 e7
                  obtain ⟨Al, cl, rfl, hA0, hA1⟩ := out5 o7
                  obtain ⟨L, eL⟩ : ∃ L, m - 1 = L := ⟨_, rfl⟩
                  rw [eL] at hlen
                  rw [hlen] at o7 ⊢
                  obtain ⟨B, eB⟩ : ∃ B, y6.heap.size = B := ⟨_, rfl⟩
                  rw [eB] at o7
                  clear eB
                  have wn1 : IntKind.i64.wrap ((n : Int) - 1) = (n : Int) - 1 := IntWalk.i64_in _ (by omega)
                  go_wp2
                  go_loopw [16, 17] (fun j i wx => ∃ mm jj, Rel5 w p q n (KK + 1000 + 1000 + 1000) B cs S7 s7 (.slice (some ⟨gl, 0, none⟩) n c) gh (.slice Al L cl) mm jj j i wx) (fun _ i _ => (intOf i + 1).toNat)
                  case atStart => exact ⟨n, 0, Nat.le_refl _, rfl, rfl, Split.start n, B7, o7⟩
                  case round =>
                    obtain ⟨mm, jj, hmm, rfl, rfl, hsp, B8, o8⟩ := hrel
                    clear B7 o7
                    cases mm with
                    | zero =>
                      have hd := hsp.done
                      rw [hlen] at hd
                      subst hd
                      have e0' : ((0 : Nat) : Int) - 1 = -1 := rfl
                      rw [e0']
                      have wm : IntKind.i64.wrap ((m : Int) - 1) = (m : Int) - 1 := IntWalk.i64_in _ (by omega)
                      have cm : ((L : Nat) : Int) = (m : Int) - 1 := by omega
                      go_wp2
                      exact ⟨⟨L, S7, s7, cs, k2, by omega, by rw [cm], rfl, hk2, ⟨B8.U.up (by omega), B8.ho, B8.hd⟩, ln4, hlen⟩, by simp [intOf]; omega⟩
                    | succ i =>
                      have ci := B8.ho.cell i (by omega)
                      rw [getD_eqB cs i (by omega)] at ci
                      have e1 : ((i + 1 : Nat) : Int) - 1 = (i : Int) := by omega
                      rw [e1]
                      have wi : IntKind.i64.wrap ((i : Int) - 1) = (i : Int) - 1 := IntWalk.i64_in _ (by omega)
                      have ii : (i : Int) < (n : Int) := by omega
                      have ip : (0 : Int) ≤ (i : Int) := by omega
                      cases hbi : cs.getD i false with
                      | false =>
                        rw [hbi] at ci
                        have hsp := hsp.skip hbi
                        go_wp2
                        go_roundw
                        case rel => exact ⟨i, jj, by omega, rfl, rfl, hsp, B8, o8⟩
                        case measure => (simp [intOf] <;> omega)
                      | true =>
                        rw [hbi] at ci
                        obtain ⟨hj, hx, hsp⟩ := hsp.take hbi
                        cases Al with
                        | none => rw [hA0 rfl] at hj; exact absurd hj (Nat.not_lt_zero jj)
                        | some ad =>
                          obtain ⟨gx, rfl⟩ := hA1 _ rfl
                          have cx := OwnU.cell o8 jj hj
                          rw [hx] at cx
                          have cl' := OwnU.cell B8.U.ow i (by rw [upTo_len]; omega)
                          rw [upTo_get n i (by omega)] at cl'
                          rw [hlen] at hj
                          have dj : decide (L ≤ jj) = false := decide_eq_false (by omega)
                          have dj2 : decide ((L : Int) ≤ (jj : Int)) = false := decide_eq_false (by omega)
                          have ij : (jj : Int) < (L : Int) := by omega
                          have wj : IntKind.i64.wrap ((jj : Int) + 1) = (jj : Int) + 1 := IntWalk.i64_in _ (by omega)
                          go_wp2
                          go_quiet (fail)
                          go_wp2
                          go_roundw
                          case rel => exact ⟨i, jj + 1, by omega, rfl, by go_num, hsp, B8.quiet (drewN_keep _ _ _), OwnU.keep o8 (drewN_keep (fun _ => False) _ _) (by simp)⟩
                          case measure => (simp [intOf] <;> omega)
theorem own : ownKnob Try.prog.godebug = none := by kernel_rfl
theorem laidOut : laidOutB Try.prog = true := by kernel_rfl
set_option maxRecDepth 100000 in
theorem lifted (os : Os) (started : os.Started) (H : Type) (enc : TypeId × Value → H) :
    ReturnsInHanded {} Try.checked os 5 .any (Rows.chainOrdersSpec.pre6 enc Try.prog Try.f5 Rows.chainOrdersRow.domain false) (Rows.chainOrdersSpec.post enc Try.prog Try.f5 false true false false) := by
  refine returnsInHanded_of_change (C := Try.checked) own started (by kernel_rfl) Try.func5
    (ChangeSpec.witness6 (enc := enc) (C := Try.checked) false ⟨#[], #[.int .i64 0, .int .i64 0], []⟩ 8 (by kernel_rfl) (by kernel_rfl) (by kernel_rfl) (by kernel_rfl)) ?_
  intro W base args ds gs before hval0 hW hcnd _
  have hval : ∀ (j : Nat) t v, Try.f5.params[j]? = some t → args[j]? = some v → Value.okWide Try.prog W .any base t v := hval0
  have hW' := hW
  obtain ⟨p, q, hA0, hV, rfl, hfz, hnd⟩ := hW
  have hA : DataW.TrodAll enc Try.prog W 0 (fun _ => true) true Try.f5.params.toList args.toList ds p := hA0
  rw [Try.params5] at hA hval
  obtain ⟨v0, vs0, d0, ds0, p0, q0, hargs, rfl, rfl, h0, r0⟩ := trodAll_cons hA
  obtain ⟨v1, vs1, d1, ds1, p1, q1, rfl, rfl, rfl, h1, r1⟩ := trodAll_cons r0
  obtain ⟨rfl, rfl, rfl⟩ := trodAll_nil r1
  obtain rfl : args = #[v0, v1] := by cases args; simp_all
  obtain ⟨rfl, rfl⟩ := trodVars_none hV
  obtain ⟨a0, rfl, rfl, rfl, w0⟩ := open_int Try.underlying3 (hval 0 3 v0 rfl rfl) h0
  obtain ⟨a1, rfl, rfl, rfl, w1⟩ := open_int Try.underlying3 (hval 1 3 v1 rfl rfl) h1
  clear hA0 hval0
  refine (walk a0 a1 W w0 w1).mono fun e W' ⟨he, bel⟩ => ?_
  subst he
  exact ⟨_, rfl, _, _, _, [], _, [], hW', trodAll_mk1 (shut_bool Try.underlying4 _), (trodAll_cons_mk (shut_int Try.underlying3 w0) (trodAll_cons_mk (shut_int Try.underlying3 w1) trodAll_mk0)), rfl, bel.frame _, fun h => by cases h⟩
theorem over : Rows.chainOrdersRow.holds Try.pinned (OpenSpec.ofChange Rows.chainOrdersSpec) :=
  OpenClaim.holds_of_wide 5 Try.f5 rfl rfl rfl rfl rfl rfl rfl ⟨rfl, rfl, rfl, rfl, rfl⟩ rfl rfl rfl rfl rfl (by kernel_rfl) Try.func5 (by kernel_rfl)
    (of_decide_eq_true (by kernel_rfl)) (by unfold Func.isWrapper; first | (rw [if_pos (by decide +kernel)]; kernel_rfl) | (rw [if_neg (by decide +kernel)]; exact ⟨rfl, rfl⟩))
    (fun os started H enc _ => lifted os started H enc)
theorem proved : Rows.ChainOrdersSaid := over
end Go.Proofs.Ytagboodnbgpnkaa.chainOrders
