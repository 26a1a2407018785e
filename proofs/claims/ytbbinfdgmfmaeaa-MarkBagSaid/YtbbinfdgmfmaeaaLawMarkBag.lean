/- Proved here: vinculumlaw17.MarkBag returns true and leaves its arguments as they were, for any slice of 64-bit words and any int; no further condition. -/
import Derived.Test.YtbbinfdgmfmaeaaMkD
import Derived.Test.YtbbinfdgmfmaeaaMask
import Derived.Test.YtbbinfdgmfmaeaaRow
import Derived.Test.YtbbinfdgmfmaeaaApp
import Derived.Deep.LoopGhost
import Derived.Deep.QuietTactic
import Derived.BigQuiet
namespace Go.Proofs.Ytbbinfdgmfmaeaa.markBag
open Go.ChangeShapes Go.WideShapes Go.ChangeAt Go.RowKit
set_option linter.unusedVariables false

/-- The row, turned by t. -/
def turned (z : List Int) (n t : Nat) : List Int := (List.range n).map fun k => z.getD ((k + t) % n) 0
theorem turned_len (z : List Int) (n t : Nat) : (turned z n t).length = n := by simp [turned]
theorem turned_get (z : List Int) (n t k : Nat) (h : k < n) : (turned z n t)[k]'(by rw [turned_len]; exact h) = z.getD ((k + t) % n) 0 := by simp [turned]
theorem range_turned (n t : Nat) (hn : 0 < n) : ((List.range n).map fun k => (k + t) % n).Perm (List.range n) := by
  have nd : ((List.range n).map fun k => (k + t) % n).Nodup := by
    unfold List.Nodup
    rw [List.pairwise_map]
    refine List.Pairwise.imp_of_mem (fun {a b} ha hb hne e => hne ?_) (List.nodup_range (n := n))
    simp only [List.mem_range] at ha hb
    have ea := Nat.mod_add_div (a + t) n
    have eb := Nat.mod_add_div (b + t) n
    rw [e] at ea
    rcases Nat.lt_trichotomy ((a + t) / n) ((b + t) / n) with h | h | h
    · have := Nat.mul_le_mul_left n (show (a + t) / n + 1 ≤ (b + t) / n from h)
      rw [Nat.mul_add] at this
      omega
    · rw [h] at ea; omega
    · have := Nat.mul_le_mul_left n (show (b + t) / n + 1 ≤ (a + t) / n from h)
      rw [Nat.mul_add] at this
      omega
  rw [List.perm_ext_iff_of_nodup nd List.nodup_range]
  intro x
  simp only [List.mem_map, List.mem_range]
  constructor
  · rintro ⟨k, _, rfl⟩
    exact Nat.mod_lt _ hn
  · intro hx
    refine ⟨(x + (n - t % n)) % n, Nat.mod_lt _ hn, ?_⟩
    have h1 := Nat.mod_lt t hn
    rw [Nat.mod_add_mod, ← Nat.add_mod_mod (x + (n - t % n)) t n, show x + (n - t % n) + t % n = x + n by omega, Nat.add_mod_right, Nat.mod_eq_of_lt hx]
theorem turned_perm (z : List Int) (n t : Nat) (hn : n ≤ z.length) : (turned z n t).Perm (z.take n) := by
  rcases Nat.eq_zero_or_pos n with rfl | h0
  · simp [turned]
  · have e : z.take n = (List.range n).map fun k => z.getD k 0 := by
      apply List.ext_getElem
      · simp; omega
      · intro i h1 h2
        simp at h1 h2
        simp [List.getD_eq_getElem?_getD, List.getElem?_eq_getElem (show i < z.length by omega)]
    rw [e]
    unfold turned
    rw [show (fun k => z.getD ((k + t) % n) 0) = (fun k => z.getD k 0) ∘ (fun k => (k + t) % n) from rfl, ← List.map_map]
    exact (range_turned n t h0).map _
/-- What is left behind i rounds. -/
def left (z : List Int) (n t : Nat) : Nat → List Int
  | 0 => bag z n
  | i + 1 => (left z n t i).erase (z.getD ((i + t) % n) 0)
theorem left_perm (z : List Int) (n t : Nat) (hn : n ≤ z.length) : ∀ i, i ≤ n → (left z n t i).Perm ((turned z n t).drop i)
  | 0, _ => by
    rw [List.drop_zero]
    exact (bag_perm z n hn).trans (turned_perm z n t hn).symm
  | i + 1, h => by
    have ih := left_perm z n t hn i (by omega)
    have hi : i < (turned z n t).length := by rw [turned_len]; omega
    rw [List.drop_eq_getElem_cons hi, turned_get z n t i (by omega)] at ih
    have := ih.erase (z.getD ((i + t) % n) 0)
    rw [List.erase_cons_head] at this
    exact this
theorem left_mem (z : List Int) (n t : Nat) (hn : n ≤ z.length) {i k : Nat} (hi : i ≤ k) (hk : k < n) : z.getD ((k + t) % n) 0 ∈ left z n t i := by
  rw [(left_perm z n t hn i (by omega)).mem_iff, ← turned_get z n t k hk]
  have hl : k < (turned z n t).length := by rw [turned_len]; exact hk
  rw [List.mem_drop_iff_getElem]
  exact ⟨k - i, by omega, by simp [Nat.add_sub_of_le hi]⟩
theorem left_len (z : List Int) (n t : Nat) (hn : n ≤ z.length) {i : Nat} (hi : i ≤ n) : (left z n t i).length = n - i := by
  rw [(left_perm z n t hn i hi).length_eq, List.length_drop, turned_len]
def R1 (w : World) (m : Nat) (z : List Int) (n k : Nat) (iv : Value) (wr : World) : Prop := ∃ S, k ≤ n ∧ iv = .int .i64 k ∧ Mk w wr m S (bag z k)
def R2 (w : World) (m : Nat) (z : List Int) (n t i : Nat) (iv : Value) (wr : World) : Prop := ∃ S, i ≤ n ∧ iv = .int .i64 i ∧ Mk w wr m S (left z n t i)
def R3 (y : World) (i n : Nat) (kv : Value) (wr : World) : Prop := ∃ k d : Nat, i ≤ k ∧ k ≤ n ∧ kv = .int .i64 k ∧ wr = y.drewN d
def R4 (w : World) (m : Nat) (n : Nat) (iv : Value) (wr : World) : Prop := ∃ (k : Nat) (S : Nat → Prop), k ≤ n ∧ iv = .int .i64 k ∧ Mk w wr m S []
set_option maxRecDepth 100000 in
set_option maxHeartbeats 8000000 in
theorem walk (a0 : Option Addr) (n0 c0 : Nat) (z : List Int) (a1 : Int) (w : World) (w0 : IsRow .u64 w a0 n0 c0 z) (w1 : (Lit.int .i64 a1).wf = true) :
    Calls Try.prog 3 #[.slice a0 n0 c0, .int .i64 a1] w fun e w' => e = .returned (.bool true) ∧ Below w.heap.size w w' := by
  obtain ⟨t, et⟩ : ∃ n : Nat, a1 % 256 = (n : Int) := ⟨(a1 % 256).toNat, by omega⟩
  have mt : bits .and .i64 a1 255 = (t : Int) := (i64_mask8 a1).trans et
  have t256 : t < 256 := by omega
  have lz := w0.len
  have lc := w0.cell
  have m1 := w0.cap
  have x1 := w0.max
  have uz : ∀ j, U64 (z.getD j 0) := fun j => w0.u64 j
  obtain ⟨n, en⟩ : ∃ n, min n0 30 = n := ⟨_, rfl⟩
  have hmn : (if (30 : Int) < (n0 : Int) then (30 : Int) else (n0 : Int)) = (n : Int) := by split <;> omega
  have hmn2 : (if (n0 : Int) < (30 : Int) then (n0 : Int) else (30 : Int)) = (n : Int) := by split <;> omega
  have n30 : n ≤ 30 := by omega
  have nz : n ≤ n0 := by omega
  have nl : n ≤ z.length := by omega
  clear w0 w1 et en
  go_enter Try.func3, Try.ntmps3
  go_wp2_with fail
  refine (mk_new w).mono ?_
  rintro e y1 ⟨m, S1, rfl, h1⟩
  go_wp2
  go_loopw [7] (fun iv wr => ∃ k : Nat, R1 w m z n k iv wr) (fun iv _ => n - (intOf iv).toNat)
  case atStart => exact ⟨0, S1, Nat.zero_le _, rfl, h1⟩
  case round =>
    clear h1
    obtain ⟨k, S, hk, rfl, h⟩ := hrel
    have wk : IntKind.i64.wrap ((k : Int) + 1) = (k : Int) + 1 := IntWalk.i64_in _ (by omega)
    by_cases hlt : k < n
    · obtain ⟨b, off, rfl, hb, hc⟩ := lc (by omega)
      have hc := (h.b.cell (p := ⟨b, off + k, none⟩) hb).trans (hc k (by omega))
      have hkn : k < n0 := by omega
      have bl : (bag z k).length ≤ 1000 := by rw [(bag_perm z k (by omega)).length_eq]; simp; omega
      have ux := uz k
      have eb : insM (bag z k) (z.getD k 0) = bag z (k + 1) := rfl
      obtain ⟨x, ex⟩ : ∃ x, z.getD k 0 = x := ⟨_, rfl⟩
      rw [ex] at hc ux eb
      have EB := Lib.hid eb
      clear ex eb lc uz hmn hmn2
      go_wp2_with fail
      refine (mk_enter h bl x ux).mono ?_
      rintro e y2 ⟨rfl, S2, h2, k2⟩
      rw [EB.out] at h2
      clear h k2
      go_wp2
      first | exact ⟨⟨k + 1, S2, by omega, by go_num, h2⟩, by simp [intOf]; omega⟩ | (refine ⟨?rel2, ?meas2⟩; (case meas2 => (simp [intOf]; omega)); (case rel2 => ((repeat apply Exists.intro); exact ⟨⟨k + 1, S2, by omega, by go_num, h2⟩, rfl⟩)))
    · obtain rfl : k = n := by omega
      clear hmn hmn2 hlt hk wk
      go_wp2
      go_loopw [8] (fun iv wr => ∃ i : Nat, R2 w m z k t i iv wr) (fun iv _ => k - (intOf iv).toNat)
      case atStart => exact ⟨0, S, Nat.zero_le _, rfl, h⟩
      case round =>
        clear h
        obtain ⟨i, S, hi, rfl, h⟩ := hrel
        have wi : IntKind.i64.wrap ((i : Int) + 1) = (i : Int) + 1 := IntWalk.i64_in _ (by omega)
        have ll := left_len z k t nl hi
        by_cases hlt : i < k
        · obtain ⟨lo, elo⟩ : ∃ lo, lowM (left z k t i) 18446744073709551615 = lo := ⟨_, rfl⟩
          have hlo : ∀ j, i ≤ j → j < k → lo ≤ z.getD ((j + t) % k) 0 := fun j h1 h2 => by
            rw [← elo]
            exact low_le h.fl (left_mem z k t nl h1 h2)
          obtain ⟨b, off, rfl, hb, hc⟩ := lc (by omega)
          go_wp2_with fail
          refine (mk_low h (by omega) 18446744073709551615 ⟨by omega, by omega⟩ lo elo).mono ?_
          rintro e y2 ⟨rfl, S2, h2, k2⟩
          clear h k2 elo
          go_wp2
          go_loopw [10] (fun kv wr => R3 y2 i k kv wr) (fun kv _ => k - (intOf kv).toNat)
          case atStart => exact ⟨i, 0, Nat.le_refl _, by omega, rfl, rfl⟩
          case round =>
            obtain ⟨j, d, ij, jk, rfl, rfl⟩ := hrel
            have wj : IntKind.i64.wrap ((j : Int) + 1) = (j : Int) + 1 := IntWalk.i64_in _ (by omega)
            by_cases hj : j < k
            · have hlj := hlo j ij hj
              have w1 : IntKind.i64.wrap ((j : Int) + (t : Int)) = (j : Int) + (t : Int) := IntWalk.i64_in _ (by omega)
              obtain ⟨q, eq⟩ : ∃ q, (j + t) % k = q := ⟨_, rfl⟩
              have hq : q < k := by rw [← eq]; exact Nat.mod_lt _ (by omega)
              have w2 : ((j : Int) + (t : Int)).tmod (k : Int) = (q : Int) := by rw [Int.tmod_eq_emod_of_nonneg (by omega), ← eq]; simp
              have w3 : ((j : Int) + (t : Int)) % (k : Int) = (q : Int) := by rw [← eq]; simp
              have w4 : IntKind.i64.wrap (q : Int) = (q : Int) := IntWalk.i64_in _ (by omega)
              have hq0 : q < n0 := by omega
              have hc := (h2.b.cell (p := ⟨b, off + q, none⟩) hb).trans (hc q hq0)
              rw [eq] at hlj
              obtain ⟨x, ex⟩ : ∃ x, z.getD q 0 = x := ⟨_, rfl⟩
              rw [ex] at hc hlj
              have d0 : decide (x < lo) = false := decide_eq_false (by omega)
              have k0 : (k : Int) ≠ 0 := by omega
              have k0b : ((k : Int) == 0) = false := by simpa using k0
              clear ex eq hlo
              go_wp2_with fail
              go_wp2
              first | exact ⟨⟨j + 1, _, by omega, by omega, by go_num, rfl⟩, by simp [intOf]; omega⟩ | (refine ⟨?rel2, ?meas2⟩; (case meas2 => (simp [intOf]; omega)); (case rel2 => ((repeat apply Exists.intro); exact ⟨⟨j + 1, _, by omega, by omega, by go_num, rfl⟩, rfl⟩)))
            · obtain rfl : j = k := by omega
              have h3 := h2.quiet (drewN_keep (fun _ => False) y2 d)
              obtain ⟨y3, e3⟩ : ∃ y3, y2.drewN d = y3 := ⟨_, rfl⟩
              rw [e3] at h3 ⊢
              have w1 : IntKind.i64.wrap ((i : Int) + (t : Int)) = (i : Int) + (t : Int) := IntWalk.i64_in _ (by omega)
              have hmem := left_mem z j t nl (Nat.le_refl i) hlt
              have hlen := left_len z j t nl (show i + 1 ≤ j by omega)
              have he : (left z j t i).erase (z.getD ((i + t) % j) 0) = left z j t (i + 1) := rfl
              obtain ⟨q, eq⟩ : ∃ q, (i + t) % j = q := ⟨_, rfl⟩
              have hq : q < j := by rw [← eq]; exact Nat.mod_lt _ (by omega)
              have w2 : ((i : Int) + (t : Int)).tmod (j : Int) = (q : Int) := by rw [Int.tmod_eq_emod_of_nonneg (by omega), ← eq]; simp
              have w3 : ((i : Int) + (t : Int)) % (j : Int) = (q : Int) := by rw [← eq]; simp
              have w4 : IntKind.i64.wrap (q : Int) = (q : Int) := IntWalk.i64_in _ (by omega)
              have w5 : IntKind.i64.wrap ((j : Int) - 1) = (j : Int) - 1 := IntWalk.i64_in _ (by omega)
              have w6 : IntKind.i64.wrap ((j : Int) - 1 - (i : Int)) = (j : Int) - 1 - (i : Int) := IntWalk.i64_in _ (by omega)
              have hq0 : q < n0 := by omega
              have hc := (h3.b.cell (p := ⟨b, off + q, none⟩) hb).trans (hc q hq0)
              have ux := uz q
              rw [eq] at hmem he
              obtain ⟨x, ex⟩ : ∃ x, z.getD q 0 = x := ⟨_, rfl⟩
              rw [ex] at hc hmem he ux
              have k0 : (j : Int) ≠ 0 := by omega
              have k0b : ((j : Int) == 0) = false := by simpa using k0
              have HE := Lib.hid he
              have HN := Lib.hid hlen
              clear ex eq hlo e3 h2 he hlen uz lc
              go_wp2_with fail
              refine (mk_leave h3 (by omega) x ux true (decide_eq_true hmem)).mono ?_
              rintro e y4 ⟨rfl, S4, h4, k4⟩
              rw [HE.out] at h4
              clear h3 k4 hc hmem
              go_wp2_with fail
              refine (mk_len h4 (by rw [HN.out]; omega) ((j : Int) - 1 - (i : Int)) (by rw [HN.out]; omega)).mono ?_
              rintro e y5 ⟨rfl, S5, h5, k5⟩
              clear h4 k5
              go_wp2
              first | exact ⟨⟨i + 1, S5, by omega, by go_num, h5⟩, by simp [intOf]; omega⟩ | (refine ⟨?rel2, ?meas2⟩; (case meas2 => (simp [intOf]; omega)); (case rel2 => ((repeat apply Exists.intro); exact ⟨⟨i + 1, S5, by omega, by go_num, h5⟩, rfl⟩)))
        · obtain rfl : i = k := by omega
          have e0 : left z i t i = [] := List.length_eq_zero_iff.1 (by rw [ll]; omega)
          rw [e0] at h
          clear e0 ll hlt hi wi
          go_wp2
          go_loopw [11] (fun iv wr => R4 w m i iv wr) (fun iv _ => i - (intOf iv).toNat)
          case atStart => exact ⟨0, S, Nat.zero_le _, rfl, h⟩
          case round =>
            clear h
            obtain ⟨k, S, hk, rfl, h⟩ := hrel
            have wk : IntKind.i64.wrap ((k : Int) + 1) = (k : Int) + 1 := IntWalk.i64_in _ (by omega)
            by_cases hlt : k < i
            · obtain ⟨b, off, rfl, hb, hc⟩ := lc (by omega)
              have hc := (h.b.cell (p := ⟨b, off + k, none⟩) hb).trans (hc k (by omega))
              have hkn : k < n0 := by omega
              have ux := uz k
              obtain ⟨x, ex⟩ : ∃ x, z.getD k 0 = x := ⟨_, rfl⟩
              rw [ex] at hc ux
              clear ex lc uz
              go_wp2_with fail
              refine (mk_leave h (by simp) x ux false (by simp)).mono ?_
              rintro e y2 ⟨rfl, S2, h2, k2⟩
              have h2 : Mk w y2 m S2 [] := h2
              clear h k2
              go_wp2
              first | exact ⟨⟨k + 1, S2, by omega, by go_num, h2⟩, by simp [intOf]; omega⟩ | (refine ⟨?rel2, ?meas2⟩; (case meas2 => (simp [intOf]; omega)); (case rel2 => ((repeat apply Exists.intro); exact ⟨⟨k + 1, S2, by omega, by go_num, h2⟩, rfl⟩)))
            · obtain rfl : k = i := by omega
              clear hlt hk wk lc uz
              go_wp2_with fail
              refine (mk_low h (by simp) 7 ⟨by omega, by omega⟩ 7 rfl).mono ?_
              rintro e y2 ⟨rfl, S2, h2, k2⟩
              clear h k2
              go_wp2_with fail
              refine (mk_all h2 (by simp)).mono ?_
              rintro e y3 ⟨v, S3, rfl, o3, _, h3, k3⟩
              obtain ⟨A, c, rfl⟩ : ∃ A c, v = Value.slice A 0 c := by
                rcases OwnU.shape o3 with ⟨h1, _⟩ | ⟨g, c, h1, _⟩
                · exact ⟨none, 0, h1⟩
                · exact ⟨_, c, h1⟩
              clear h2 k3 o3
              go_wp2_with fail
              refine (awake17_any _).mono ?_
              rintro e y4 ⟨rfl, b4⟩
              go_wp2
              go_ret
              exact ⟨rfl, h3.b.trans (b4.mono h3.b.size)⟩
theorem own : ownKnob Try.prog.godebug = none := by kernel_rfl
theorem laidOut : laidOutB Try.prog = true := by kernel_rfl
set_option maxRecDepth 100000 in
theorem lifted (os : Os) (started : os.Started) (H : Type) (enc : TypeId × Value → H) :
    ReturnsInHanded {} Try.checked os 3 .any (Rows.markBagSpec.pre6 enc Try.prog Try.f3 Rows.markBagRow.domain false) (Rows.markBagSpec.post enc Try.prog Try.f3 false true false false) := by
  refine returnsInHanded_of_change (C := Try.checked) own started (by kernel_rfl) Try.func3
    (ChangeSpec.witness6 (enc := enc) (C := Try.checked) false ⟨#[], #[.slice none 0 0, .int .i64 0], []⟩ 8 (by kernel_rfl) (by kernel_rfl) (by kernel_rfl) (by kernel_rfl)) ?_
  intro W base args ds gs before hval0 hW hcnd _
  have hval : ∀ (j : Nat) t v, Try.f3.params[j]? = some t → args[j]? = some v → Value.okWide Try.prog W .any base t v := hval0
  have hW' := hW
  obtain ⟨p, q, hA0, hV, rfl, hfz, hnd⟩ := hW
  have hA : DataW.TrodAll enc Try.prog W 0 (fun _ => true) true Try.f3.params.toList args.toList ds p := hA0
  rw [Try.params3] at hA hval
  obtain ⟨v0, vs0, d0, ds0, p0, q0, hargs, rfl, rfl, h0, r0⟩ := trodAll_cons hA
  obtain ⟨v1, vs1, d1, ds1, p1, q1, rfl, rfl, rfl, h1, r1⟩ := trodAll_cons r0
  obtain ⟨rfl, rfl, rfl⟩ := trodAll_nil r1
  obtain rfl : args = #[v0, v1] := by cases args; simp_all
  obtain ⟨rfl, rfl⟩ := trodVars_none hV
  obtain ⟨a0, len0, cap0, rfl⟩ := okWide_slice Try.underlying22 (hval 0 22 v0 rfl rfl)
  have k0 := h0
  have lt0 : ∀ x ∈ p0, x.block < W.heap.size := by obtain ⟨m, hm⟩ := k0; exact DataW.trod_lt m _ _ _ hm
  obtain ⟨z0, w0⟩ : ∃ zs, IsRow .u64 W a0 len0 cap0 zs := is_row Try.underlying22 Try.underlying26 (by kernel_rfl) h0
  obtain ⟨a1, rfl, rfl, rfl, w1⟩ := open_int Try.underlying3 (hval 1 3 v1 rfl rfl) h1
  clear hA0 hval0
  refine (walk a0 len0 cap0 z0 a1 W w0 w1).mono fun e W' ⟨he, bel⟩ => ?_
  subst he
  exact ⟨_, rfl, _, _, _, [], _, [], hW', trodAll_mk1 (shut_bool Try.underlying4 _), (trodAll_cons_mk (Below.trod laidOut (by kernel_rfl) (of_decide_eq_true (by kernel_rfl)) k0 bel lt0) (trodAll_cons_mk (shut_int Try.underlying3 w1) trodAll_mk0)), rfl, bel.frame _, fun h => by cases h⟩
theorem over : Rows.markBagRow.holds Try.pinned (OpenSpec.ofChange Rows.markBagSpec) :=
  OpenClaim.holds_of_wide 3 Try.f3 rfl rfl rfl rfl rfl rfl rfl ⟨rfl, rfl, rfl, rfl, rfl⟩ rfl rfl rfl rfl rfl (by kernel_rfl) Try.func3 (by kernel_rfl)
    (of_decide_eq_true (by kernel_rfl)) (by unfold Func.isWrapper; first | (rw [if_pos (by decide +kernel)]; kernel_rfl) | (rw [if_neg (by decide +kernel)]; exact ⟨rfl, rfl⟩))
    (fun os started H enc _ => lifted os started H enc)
theorem proved : Rows.MarkBagSaid := over
end Go.Proofs.Ytbbinfdgmfmaeaa.markBag
