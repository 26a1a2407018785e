/- Proved here: vinculumlaw13.ReadsKeeps returns true and leaves its arguments as they were, for any two ints and any slice of 64-bit words; no further condition. -/
import Derived.Test.YtafcmcpnmkmlbaaRdD
import Derived.Test.YtafcmcpnmkmlbaaMask
import Derived.Test.YtafcmcpnmkmlbaaRow
import Derived.Test.YtafcmcpnmkmlbaaApp
import Derived.Test.YtafcmcpnmkmlbaaSame
import Derived.Deep.CutRange
import Derived.Deep.CutBlock
import Derived.Deep.QuietTactic
import Derived.BigQuiet
import Derived.Deep.RegionHeld3
namespace Go.Proofs.Ytafcmcpnmkmlbaa.readsKeeps
open Go.ChangeShapes Go.WideShapes Go.ChangeAt Go.RowKit
set_option linter.unusedVariables false

theorem row_at {w w' : World} {b off n : Nat} {z : List Int} (hz : z.length = n) (hc : ∀ j, j < n → w.cell? ⟨b, off + j, none⟩ = some (.int .u64 (z.getD j 0))) (h : ∀ j u, w.cell? ⟨b, j, none⟩ = some u → w'.cell? ⟨b, j, none⟩ = some u) : ∀ t, t < z.length → w'.cell? ((⟨b, off, none⟩ : Addr).add t) = some (.int .u64 (z.getD t 0)) := by
  intro t ht
  rw [add_plain]
  exact h _ _ (hc t (by omega))
/-- A row of words of one's own that is not empty: where it lies, and its first. -/
theorem own_first {B : Nat} {w : World} {v : Value} {x : Int} {t : List Int} (o : OwnU B w v (x :: t)) : ∃ g c, v = .slice (some ⟨g, 0, none⟩) (t.length + 1) c ∧ B ≤ g ∧ g < w.heap.size ∧ w.cell? ⟨g, 0, none⟩ = some (.int .u64 x) ∧ w.frozen? ⟨g, 0, none⟩ = false := by
  rcases o.shape with ⟨_, h⟩ | ⟨g, c, rfl, h1, h2, _⟩
  · cases h
  · exact ⟨g, c, rfl, h1, h2, by have := OwnU.cell o 0 (by simp); simpa using this, World.ownsRow.frozenAt o 0⟩
/-- Behind an append to an empty literal: what has turned is new. -/
theorem app_new {w w1 w2 : World} {x c : Nat} (k : Keep (fun _ => False) w w1) (k2 : Keep (fun j => (Value.slice (some ⟨w.heap.size, 0, none⟩) x c).ownBlock = some j) w1 w2) : Keep (fun _ => False) w w2 :=
  ⟨k2.os.trans k.os, k2.tape.trans k.tape, k2.output.trans k.output, Nat.le_trans k.size k2.size, fun j hj _ => (k2.block j (Nat.lt_of_lt_of_le hj k.size) (by simp [Value.ownBlock]; omega)).trans (k.block j hj (by simp))⟩
set_option maxRecDepth 100000 in
set_option maxHeartbeats 8000000 in
theorem walk (a0 a1 : Int) (a2 : Option Addr) (n2 c2 : Nat) (z2 : List Int) (w : World) (w0 : (Lit.int .i64 a0).wf = true) (w1 : (Lit.int .i64 a1).wf = true) (w2 : IsRow .u64 w a2 n2 c2 z2) :
    Calls Try.prog 6 #[.int .i64 a0, .int .i64 a1, .slice a2 n2 c2] w fun e w' => e = .returned (.bool true) ∧ Below w.heap.size w w' := by
  obtain ⟨a, ea⟩ : ∃ n : Nat, a0 % 64 = (n : Int) := ⟨(a0 % 64).toNat, by omega⟩
  obtain ⟨b, eb⟩ : ∃ n : Nat, a1 % 64 = (n : Int) := ⟨(a1 % 64).toNat, by omega⟩
  have ma : bits .and .i64 a0 63 = (a : Int) := (i64_mask a0 6 (by decide)).trans ea
  have mb : bits .and .i64 a1 63 = (b : Int) := (i64_mask a1 6 (by decide)).trans eb
  have ha : a < 64 := by omega
  have hb : b < 64 := by omega
  have l2 := w2.cell
  have lz := w2.len
  have m2 := w2.cap
  have x2 := w2.max
  have uz := w2.u64
  clear w0 w1 w2 ea eb
  by_cases hn : n2 = 0 ∨ 50 < n2
  · have fin : ∀ {t : Nat} {S : Nat → Prop} {w1 : World}, Rd w w1 t S RdS.new → ∀ w2, Below w1.heap.size w1 w2 → Below w.heap.size w w2 := fun h w2 k => h.b.trans (k.mono h.b.size)
    rcases hn with rfl | hn
    · go_enter Try.func6, Try.ntmps6
      go_wp2_with fail
      refine (rd_new w).mono ?_
      rintro e w1 ⟨t, S1, rfl, h1⟩
      go_wp2_with fail
      refine (awake13_any _).mono ?_
      rintro e w2 ⟨rfl, b2⟩
      go_wp2
      go_ret
      exact ⟨rfl, fin h1 _ b2⟩
    · have d0 : ¬ n2 = 0 := by omega
      go_enter Try.func6, Try.ntmps6
      go_wp2_with fail
      refine (rd_new w).mono ?_
      rintro e w1 ⟨t, S1, rfl, h1⟩
      go_wp2_with fail
      refine (awake13_any _).mono ?_
      rintro e w2 ⟨rfl, b2⟩
      go_wp2
      go_ret
      exact ⟨rfl, fin h1 _ b2⟩
  · have d0 : ¬ n2 = 0 := by omega
    have d1 : ¬ 50 < n2 := by omega
    have q0 : ((n2 : Int) == 0) = false := by simp; omega
    have q1 : decide (50 < (n2 : Int)) = false := decide_eq_false (by omega)
    obtain ⟨b0, off, rfl, hb0, hc0⟩ := l2 (by omega)
    obtain ⟨x, z, rfl⟩ : ∃ x z, z2 = x :: z := by
      cases z2 with
      | nil => simp at lz; omega
      | cons x z => exact ⟨x, z, rfl⟩
    have ux := uz 0
    rw [List.getD_cons_zero] at ux
    clear l2 hn uz
    go_enter Try.func6, Try.ntmps6
    go_wp2_with fail
    refine (rd_new w).mono ?_
    rintro e w1 ⟨t, S1, rfl, h1⟩
    go_upto_if 36 with fail
    go_cut [0, 1] from 34 to 38 (fun av bv wx => w1 = wx ∧ ∃ (a b : Nat), a ≤ b ∧ b < 64 ∧ av = .int .i64 a ∧ bv = .int .i64 b)
    case first =>
      by_cases hab : b < a
      · go_wp2_with fail
        go_meet
        case rel => exact ⟨rfl, b, a, by omega, ha, rfl, rfl⟩
      · go_wp2_with fail
        go_meet
        case rel => exact ⟨rfl, a, b, by omega, hb, rfl, rfl⟩
    case rest =>
    obtain ⟨rfl, lo, hi, hlh, hh, rfl, rfl⟩ := hcut
    clear ma mb ha hb
    have hs : RdS.new.span lo hi (x :: z) = (0, ⟨[], [], [⟨lo, hi, x :: z⟩]⟩) := by
      unfold RdS.span
      rw [if_neg (by omega), if_neg (by simp [RdS.new])]
      rfl
    have rl : (x :: z).length ≤ 100 := by omega
    have cw : ∀ {w' : World}, Below w.heap.size w w' → ∀ j u, w.cell? ⟨b0, j, none⟩ = some u → w'.cell? ⟨b0, j, none⟩ = some u := fun k j u h => (k.cell (p := ⟨b0, j, none⟩) hb0).trans h
    go_wp2_with (with_reducible refine wp_stop 41 rfl ?_)
    intro _
    have kA := Keep.alloc (Keep.refl (fun _ => False) w1) (.cells #[] 27)
    refine wp_app rfl (.tmp 39) (.tmp 40) rfl w1.heap.size kA.size _ [] rfl (own_empty (Nat.le_refl _)) ⟨b0, off, none⟩ n2 c2 (x :: z) rfl lz (row_at lz hc0 (cw (h1.quiet kA).b)) (by simp) (by omega) ?_
    intro vw w3 ow k3
    have k3 := app_new kA k3
    obtain ⟨gw, cpw, rfl, gw1, gw2, _, _⟩ := own_first ow
    have h3 := h1.quiet k3
    have nS : ∀ g, w1.heap.size ≤ g → ¬ S1 g := fun g hg x => by have := h1.lt g x; omega
    have s1 := h1.b.size
    clear kA h1
    go_wp2_with (with_reducible refine wp_stop 44 rfl ?_)
    intro _
    have kB := Keep.alloc (Keep.refl (fun _ => False) w3) (.cells #[] 27)
    refine wp_app rfl (.tmp 42) (.tmp 43) rfl w3.heap.size kB.size _ [] rfl (own_empty (Nat.le_refl _)) ⟨b0, off, none⟩ n2 c2 (x :: z) rfl lz (row_at lz hc0 (cw (h3.quiet kB).b)) (by simp) (by omega) ?_
    intro vo w5 oo k5
    have k5 := app_new kB k5
    obtain ⟨go, cpo, rfl, go1, go2, _, _⟩ := own_first oo
    have h5 := h3.quiet k5
    have ow := OwnU.keep ow k5 (by simp)
    have s3 := k3.size
    have s5 := k5.size
    clear kB h3 k5 k3
    go_wp2_with fail
    refine (rd_span h5 _ _ _ (x :: z) (OwnU.lies oo) (Nat.le_trans rl (by omega)) _ _ hs).mono ?_
    rintro e w6 ⟨rfl, S6, h6, k6⟩
    have oo := OwnU.keep oo k6.1 (fun g hg => by simp [Value.ownBlock] at hg; subst hg; exact nS _ (by omega))
    have ow := OwnU.keep ow k6.1 (fun g hg => by simp [Value.ownBlock] at hg; subst hg; exact nS _ (by omega))
    have nw : ¬ S6 gw := fun x => by rcases k6.2 gw x with y | y; exact nS _ (by omega) y; omega
    have no : ¬ S6 go := fun x => by rcases k6.2 go x with y | y; exact nS _ (by omega) y; omega
    obtain ⟨_, _, hv, _, _, co, fo⟩ := own_first oo
    obtain ⟨rfl, _⟩ : _ ∧ True := by simp at hv; exact ⟨hv.1, trivial⟩
    have s6 := k6.1.size
    obtain ⟨y1, ey1⟩ : ∃ y, IntKind.u64.wrap (x + 1) = y := ⟨_, rfl⟩
    obtain ⟨y2, ey2⟩ : ∃ y, IntKind.u64.wrap (x - 1) = y := ⟨_, rfl⟩
    have kC := keep_one w6 ⟨go, 0, none⟩ (.int .u64 y1)
    have h7 := h6.own kC (fun g hg => by have e : g = go := hg; rw [e]; exact ⟨no, by omega⟩)
    have ow := OwnU.keep ow kC (fun g hg e => by simp [Value.ownBlock] at hg; have : gw = go := by rw [hg]; exact e
                                                 omega)
    obtain ⟨w7, e7⟩ : ∃ w7, w6.setCell ⟨go, 0, none⟩ (.int .u64 y1) = w7 := ⟨_, rfl⟩
    have s7 : w7.heap.size = w6.heap.size := by rw [← e7]; simp [World.setCell]
    rw [e7] at h7 ow
    clear oo kC k6 hs h5 h6 cw hv
    go_wp2_with fail
    refine (rd_spans h7).mono ?_
    rintro e w8 ⟨v, S8, T8, rfl, o8, d8, h8, k8⟩
    have ow := OwnU.keep ow k8.1 (fun g hg => by simp [Value.ownBlock] at hg; subst hg; exact nw)
    have nw8 : ¬ S8 gw := fun x => by rcases k8.2 gw x with y | y; exact nw y; omega
    obtain ⟨⟨A8, c8, rfl, _, hf⟩, t80, t81⟩ := o8
    obtain ⟨gx, rfl, tx, fx, he⟩ := hf (by simp)
    obtain ⟨cx0, cx1, u, cx2, ou, hu⟩ := he 0 _ rfl
    obtain ⟨gu, cpu, rfl, gu1, gu2, cu, fu⟩ := own_first ou
    obtain ⟨tu, nux⟩ := hu gu rfl
    have fx0 := fx 0
    have s8 := k8.1.size
    have tx0 := t80 gx tx
    have tx1 := t81 gx tx
    rw [show (⟨[], [], [⟨(lo : Int), (hi : Int), x :: z⟩]⟩ : RdS).scans = [⟨lo, hi, x :: z⟩] from rfl, show [(⟨(lo : Int), (hi : Int), x :: z⟩ : ScI)].length = 1 from rfl]
    simp only [Nat.zero_mul, Nat.zero_add] at cx0 cx1 cx2
    have hsame := same_yes gu gw 0 0 cpu cpw (x :: z) w8 (by omega) (fun i hi => by rw [Nat.zero_add]; exact OwnU.cell ou i hi) (fun i hi => by rw [Nat.zero_add]; exact OwnU.cell ow i hi)
    clear he fx hf h7 e7 hc0
    go_wp2_with fail
    refine hsame.mono ?_
    rintro e w9 ⟨rfl, d, rfl⟩
    have kD := drewN_keep (fun _ => False) w8 d
    have ow := OwnU.keep ow kD (by simp)
    have h9 := h8.quiet kD
    have hh : ∀ (b i : Nat), (w8.drewN d).cell? ⟨b, i, none⟩ = w8.cell? ⟨b, i, none⟩ := fun b i => rfl
    have hf : ∀ (b i : Nat), (w8.drewN d).frozen? ⟨b, i, none⟩ = w8.frozen? ⟨b, i, none⟩ := fun b i => rfl
    rw [← hh] at cx0 cx1 cx2 cu
    rw [← hf] at fx0 fu
    obtain ⟨w9, e9⟩ : ∃ w9, w8.drewN d = w9 := ⟨_, rfl⟩
    have s9 : w9.heap.size = w8.heap.size := by rw [← e9]; rfl
    rw [e9] at cx0 cx1 cx2 cu fx0 fu ow h9 ⊢
    clear e9 kD hh hf hsame h8 ou
    have kE := (keep_one w9 ⟨gu, 0, none⟩ (.int .u64 y2)).mono (T := fun j => j = gu ∨ j = gx) (fun j hj => .inl hj)
    have kF := (keep_one (w9.setCell ⟨gu, 0, none⟩ (.int .u64 y2)) ⟨gx, 0, none⟩ (.int .i64 99)).mono (T := fun j => j = gu ∨ j = gx) (fun j hj => .inr hj)
    have kG := kE.trans kF
    have h10 := h9.own kG (fun g hg => by rcases hg with rfl | rfl; exact ⟨d8 _ tu, by omega⟩; exact ⟨d8 _ tx, by omega⟩)
    have ow := OwnU.keep ow kG (fun g hg e => by simp [Value.ownBlock] at hg; subst hg; rcases e with e | e <;> omega)
    have f2 : (w9.setCell ⟨gu, 0, none⟩ (.int .u64 y2)).frozen? ⟨gx, 0, none⟩ = false := by rw [World.frozen?_setCell]; exact fx0
    have c2 : (w9.setCell ⟨gu, 0, none⟩ (.int .u64 y2)).cell? ⟨gx, 0, none⟩ = some (.int .i64 lo) := by
      rw [World.cell?_setCell_other _ _ _ _ (by first | (simp; done) | (simp; intro e; exact absurd e nux) | (simp; exact fun e => nux e))]; exact cx0
    obtain ⟨w10, e10⟩ : ∃ w10, (w9.setCell ⟨gu, 0, none⟩ (.int .u64 y2)).setCell ⟨gx, 0, none⟩ (.int .i64 99) = w10 := ⟨_, rfl⟩
    rw [e10] at h10 ow
    clear kE kF kG h9
    go_wp2_with fail
    refine (rd_spans h10).mono ?_
    rintro e z1 ⟨v, S11, T11, rfl, o11, d11, h11, k11⟩
    clear fx0 fu cx0 cx1 cx2 cu f2 c2 e10
    have ow := OwnU.keep ow k11.1 (fun g hg => by simp [Value.ownBlock] at hg; subst hg; exact nw8)
    obtain ⟨⟨A11, c11, rfl, _, hf⟩, t110, t111⟩ := o11
    obtain ⟨gy, rfl, ty, fy, he⟩ := hf (by simp)
    obtain ⟨cx0, cx1, u, cx2, ou, hu⟩ := he 0 _ rfl
    obtain ⟨gv, cpv, rfl, gv1, gv2, _, _⟩ := own_first ou
    rw [show (⟨[], [], [⟨(lo : Int), (hi : Int), x :: z⟩]⟩ : RdS).scans = [⟨lo, hi, x :: z⟩] from rfl, show [(⟨(lo : Int), (hi : Int), x :: z⟩ : ScI)].length = 1 from rfl]
    simp only [Nat.zero_mul, Nat.zero_add] at cx0 cx1 cx2
    have hsame := same_yes gv gw 0 0 cpv cpw (x :: z) z1 (by omega) (fun i hi => by rw [Nat.zero_add]; exact OwnU.cell ou i hi) (fun i hi => by rw [Nat.zero_add]; exact OwnU.cell ow i hi)
    clear he fy hf h10 ow ou
    go_wp2_with fail
    refine hsame.mono ?_
    rintro e w9 ⟨rfl, d, rfl⟩
    have h12 := h11.quiet (drewN_keep (fun _ => False) z1 d)
    clear hsame h11
    go_wp2_with fail
    refine (awake13_any _).mono ?_
    rintro e w9 ⟨rfl, b9⟩
    go_wp2
    go_ret
    exact ⟨rfl, h12.b.trans (b9.mono h12.b.size)⟩
theorem own : ownKnob Try.prog.godebug = none := by kernel_rfl
theorem laidOut : laidOutB Try.prog = true := by kernel_rfl
set_option maxRecDepth 100000 in
theorem lifted (os : Os) (started : os.Started) (H : Type) (enc : TypeId × Value → H) :
    ReturnsInHanded {} Try.checked os 6 .any (Rows.readsKeepsSpec.pre6 enc Try.prog Try.f6 Rows.readsKeepsRow.domain false) (Rows.readsKeepsSpec.post enc Try.prog Try.f6 false true false false) := by
  refine returnsInHanded_of_change (C := Try.checked) own started (by kernel_rfl) Try.func6
    (ChangeSpec.witness6 (enc := enc) (C := Try.checked) false ⟨#[], #[.int .i64 0, .int .i64 0, .slice none 0 0], []⟩ 8 (by kernel_rfl) (by kernel_rfl) (by kernel_rfl) (by kernel_rfl)) ?_
  intro W base args ds gs before hval0 hW hcnd _
  have hval : ∀ (j : Nat) t v, Try.f6.params[j]? = some t → args[j]? = some v → Value.okWide Try.prog W .any base t v := hval0
  have hW' := hW
  obtain ⟨p, q, hA0, hV, rfl, hfz, hnd⟩ := hW
  have hA : DataW.TrodAll enc Try.prog W 0 (fun _ => true) true Try.f6.params.toList args.toList ds p := hA0
  rw [Try.params6] at hA hval
  obtain ⟨v0, vs0, d0, ds0, p0, q0, hargs, rfl, rfl, h0, r0⟩ := trodAll_cons hA
  obtain ⟨v1, vs1, d1, ds1, p1, q1, rfl, rfl, rfl, h1, r1⟩ := trodAll_cons r0
  obtain ⟨v2, vs2, d2, ds2, p2, q2, rfl, rfl, rfl, h2, r2⟩ := trodAll_cons r1
  obtain ⟨rfl, rfl, rfl⟩ := trodAll_nil r2
  obtain rfl : args = #[v0, v1, v2] := by cases args; simp_all
  obtain ⟨rfl, rfl⟩ := trodVars_none hV
  obtain ⟨a0, rfl, rfl, rfl, w0⟩ := open_int Try.underlying3 (hval 0 3 v0 rfl rfl) h0
  obtain ⟨a1, rfl, rfl, rfl, w1⟩ := open_int Try.underlying3 (hval 1 3 v1 rfl rfl) h1
  obtain ⟨a2, len2, cap2, rfl⟩ := okWide_slice Try.underlying39 (hval 2 39 v2 rfl rfl)
  have k2 := h2
  have lt2 : ∀ x ∈ p2, x.block < W.heap.size := by obtain ⟨m, hm⟩ := k2; exact DataW.trod_lt m _ _ _ hm
  obtain ⟨z2, w2⟩ : ∃ zs, IsRow .u64 W a2 len2 cap2 zs := is_row Try.underlying39 Try.underlying27 (by kernel_rfl) h2
  clear hA0 hval0
  refine (walk a0 a1 a2 len2 cap2 z2 W w0 w1 w2).mono fun e W' ⟨he, bel⟩ => ?_
  subst he
  exact ⟨_, rfl, _, _, _, [], _, [], hW', trodAll_mk1 (shut_bool Try.underlying4 _), (trodAll_cons_mk (shut_int Try.underlying3 w0) (trodAll_cons_mk (shut_int Try.underlying3 w1) (trodAll_cons_mk (Below.trod laidOut (by kernel_rfl) (of_decide_eq_true (by kernel_rfl)) k2 bel lt2) trodAll_mk0))), rfl, bel.frame _, fun h => by cases h⟩
theorem over : Rows.readsKeepsRow.holds Try.pinned (OpenSpec.ofChange Rows.readsKeepsSpec) :=
  OpenClaim.holds_of_wide 6 Try.f6 rfl rfl rfl rfl rfl rfl rfl ⟨rfl, rfl, rfl, rfl, rfl⟩ rfl rfl rfl rfl rfl (by kernel_rfl) Try.func6 (by kernel_rfl)
    (of_decide_eq_true (by kernel_rfl)) (by unfold Func.isWrapper; first | (rw [if_pos (by decide +kernel)]; kernel_rfl) | (rw [if_neg (by decide +kernel)]; exact ⟨rfl, rfl⟩))
    (fun os started H enc _ => lifted os started H enc)
theorem proved : Rows.ReadsKeepsSaid := over
end Go.Proofs.Ytafcmcpnmkmlbaa.readsKeeps
