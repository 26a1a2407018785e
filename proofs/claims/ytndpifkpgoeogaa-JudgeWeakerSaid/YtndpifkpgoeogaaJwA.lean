/- For JudgeWeaker: what its closures find beside the set of reads, and what they tell; what holds by LSerial holds by LRepeat. No condition but those of the set. -/
import Derived.Test.YtndpifkpgoeogaaJuD
import Derived.Test.YtndpifkpgoeogaaJmB
import Derived.Test.YtndpifkpgoeogaaRow
import Derived.Test.YtndpifkpgoeogaaApp
import Derived.Laws.BitsAllLaws
namespace Go.Proofs.Ytndpifkpgoeogaa
open Go.ChangeShapes Go.WideShapes Go.ChangeAt Go.RowKit
set_option linter.unusedVariables false
theorem badK_none {lv : Int} {s : RdS} {N : Int → Int} : ∀ {l : List Int}, badK lv s N l = none ↔ ∀ k ∈ l, keyJ lv (s.link k).1 (N k) = true
  | [] => by simp [badK]
  | k :: l => by
    show (if keyJ lv (s.link k).1 (N k) = true then badK lv s N l else some k) = none ↔ _
    by_cases h : keyJ lv (s.link k).1 (N k) = true
    · rw [if_pos h, badK_none]
      exact ⟨fun q y hy => by rcases List.mem_cons.1 hy with rfl | hy; exact h; exact q y hy, fun q y hy => q y (List.mem_cons_of_mem _ hy)⟩
    · rw [if_neg h]
      exact ⟨fun e => (by cases e), fun q => absurd (q k (List.mem_cons_self ..)) h⟩
theorem badS_two {SP : Int → Int → List Int} : ∀ l : List ScI, badS 2 SP l = none
  | [] => rfl
  | x :: l => by
    show (if spanJ 2 x.z (SP x.lo x.hi) = true then badS 2 SP l else some x.lo) = none
    rw [if_pos (by unfold spanJ; simp)]
    exact badS_two l
theorem all_weaker {s : RdS} {N : Int → Int} {SP : Int → Int → List Int} (h : (allJ 3 s N SP).1 = true) : (allJ 2 s N SP).1 = true := by
  unfold allJ at h ⊢
  rw [if_neg (by omega)] at h ⊢
  have h3 : badK 3 s N (needK 3 s) = none := by
    cases e : badK 3 s N (needK 3 s) with
    | none => rfl
    | some k => rw [e] at h; cases h
  have a3 := badK_none.1 h3
  have h2 : badK 2 s N (needK 2 s) = none := badK_none.2 fun k hk => by
    have hk3 : k ∈ needK 3 s := by
      unfold needK at hk ⊢
      rw [if_neg (by decide), if_pos rfl] at hk
      rw [if_pos rfl]
      exact (List.mem_filter.1 hk).1
    have := a3 k hk3
    unfold keyJ at this ⊢
    rw [if_neg (by decide), if_neg (by decide), if_pos rfl] at this
    rw [if_neg (by decide), if_pos rfl, this, Bool.or_true]
  rw [h2, show badS 2 SP (needS 2 s) = none from badS_two _]
/-- What is there now, of a key. -/
def nowW (ks : List OpI) (zn : List Int) (same : Bool) (k : Int) : Int :=
  if same || decide (zn.length = 0) then (match ks.find? (fun y => y.lo == k) with | some y => y.link | none => if zn.length = 0 then 0 else zn.getD (k.toNat % zn.length) 0 % 4)
  else zn.getD (k.toNat % zn.length) 0 % 4
def spW (cs : List ScI) (lo hi : Int) : List Int := match cs.find? (fun x => x.lo == lo && x.hi == hi) with
  | some x => x.z
  | none => []
theorem find_at {α : Type} {p : α → Bool} {l : List α} {j : Nat} {x : α} (hx : l[j]? = some x) (hp : p x = true) (hno : ∀ m y, m < j → l[m]? = some y → p y = false) : l.find? p = some x := by
  induction l generalizing j with
  | nil => simp at hx
  | cons a l ih =>
    cases j with
    | zero => simp at hx; subst hx; simp [hp]
    | succ j =>
      have ha := hno 0 a (by omega) rfl
      rw [List.find?_cons_of_neg (by simp [ha])]
      exact ih (by simpa using hx) fun m y hm hy => hno (m + 1) y (by omega) (by simpa using hy)
theorem find_no {α : Type} {p : α → Bool} {l : List α} (hno : ∀ (m : Nat) (y : α), l[m]? = some y → p y = false) : l.find? p = none := by
  rw [List.find?_eq_none]
  intro y hy
  obtain ⟨m, hm, rfl⟩ := List.getElem_of_mem hy
  simp [hno m _ (List.getElem?_eq_getElem hm)]
/-- What the closures find. -/
structure QW (nb sb kb tb t : Nat) (vn : Value) (same : Bool) (v1 : Value) (ks : List OpI) (w : World) (S : Nat → Prop) : Prop where
  cN : w.cell? ⟨nb, 0, none⟩ = some vn
  cS : w.cell? ⟨sb, 0, none⟩ = some (.bool same)
  cK : w.cell? ⟨kb, 0, none⟩ = some v1
  cT : w.cell? ⟨tb, 0, none⟩ = some (.pointer (some ⟨t, 0, none⟩))
  o : OwnR 0 w v1 ks
  nN : ¬ S nb
  nS : ¬ S sb
  nK : ¬ S kb
  nT : ¬ S tb
  nv : ∀ g, v1.ownBlock = some g → ¬ S g
section
variable {W w w' y : World} {nb sb kb kb' tb t : Nat} {S S' : Nat → Prop} {s s' : RdS} {vn v1 : Value} {ks : List OpI} {zn : List Int} {same : Bool}
theorem QW.turn (h : QW nb sb kb tb t vn same v1 ks w S) (k : VKeep S S' w w') : QW nb sb kb tb t vn same v1 ks w' S' := by
  have far : ∀ b u, w.cell? ⟨b, 0, none⟩ = some u → ¬ S b → ¬ S' b := fun b u hc hb x => by
    rcases k.2 b x with z | z
    · exact hb z
    · have := lt_of_cell (a := ⟨b, 0, none⟩) hc; simp at this; omega
  exact ⟨k.1.cell h.cN h.nN, k.1.cell h.cS h.nS, k.1.cell h.cK h.nK, k.1.cell h.cT h.nT, OwnR.keep h.o k.1 h.nv, far _ _ h.cN h.nN, far _ _ h.cS h.nS, far _ _ h.cK h.nK, far _ _ h.cT h.nT, fun g hg x => by
    rcases k.2 g x with z | z
    · exact h.nv g hg z
    · have := (OwnR.lt h.o hg).2; omega⟩
theorem QW.stay : StayJ W t s (QW nb sb kb tb t vn same v1 ks) := fun _ h _ k => h.turn k
def NwR (ks : List OpI) (k : Int) (cnd : Bool) (jv : Value) (w wr : World) : Prop := ∃ j : Nat, j ≤ ks.length ∧ jv = .int .i64 j ∧ wr = w ∧ (cnd = true → ∀ m y, m < j → ks[m]? = some y → (y.lo == k) = false)
theorem noww_hit {k : Int} {j : Nat} {y : OpI} (hc : (same || decide (zn.length = 0)) = true) (hy : ks[j]? = some y) (e : y.lo = k) (hno : ∀ m y, m < j → ks[m]? = some y → (y.lo == k) = false) : nowW ks zn same k = y.link := by
  unfold nowW
  rw [if_pos hc, find_at hy (by simpa using e) hno]
theorem noww_zero {k : Int} (hz : zn.length = 0) (hno : ∀ m y, m < ks.length → ks[m]? = some y → (y.lo == k) = false) : nowW ks zn same k = 0 := by
  unfold nowW
  rw [if_pos (by simp [hz]), find_no (fun m y hy => hno m y (List.getElem?_eq_some_iff.1 hy).1 hy)]
  simp only
  rw [if_pos hz]
theorem noww_row {k : Int} (hz : ¬ zn.length = 0) (hno : (same || decide (zn.length = 0)) = true → ∀ m y, m < ks.length → ks[m]? = some y → (y.lo == k) = false) : nowW ks zn same k = zn.getD (k.toNat % zn.length) 0 % 4 := by
  unfold nowW
  by_cases c : (same || decide (zn.length = 0)) = true
  · rw [if_pos c, find_no (fun m y hy => hno c m y (List.getElem?_eq_some_iff.1 hy).1 hy)]
    simp only
    rw [if_neg hz]
  · rw [if_neg c]
set_option maxRecDepth 100000 in
set_option maxHeartbeats 2000000 in
theorem noww_clo {An : Option Addr} {cn : Nat} (h : QW nb sb kb tb t (.slice An zn.length cn) same v1 ks w S) (hz : Lies w (.slice An zn.length cn) zn) (kl : ks.length ≤ 40) (un : ∀ j, j < zn.length → U64 (zn.getD j 0)) (hl : zn.length ≤ 9223372036854775807) (k : Nat) (hk : k ≤ 63) :
    Calls Try.prog 29 #[.int .i64 k, .pointer (some ⟨kb, 0, none⟩), .pointer (some ⟨sb, 0, none⟩), .pointer (some ⟨nb, 0, none⟩)] w fun e w' => e = .returned (.int .u64 (nowW ks zn same k)) ∧ ∃ d, w' = w.drewN d := by
  have cN := h.cN
  have cS := h.cS
  have cK := h.cK
  obtain ⟨A, c, rfl, hA0, hA1⟩ := OwnR.shape h.o
  have o := h.o
  have HZ := Lib.hid hz
  obtain ⟨cnd, ec⟩ : ∃ b, (same || decide (zn.length = 0)) = b := ⟨_, rfl⟩
  have HIT := Lib.hid (fun (j : Nat) (y : OpI) => @noww_hit ks zn same (k : Int) j y)
  have ZERO := Lib.hid (@noww_zero ks zn same (k : Int))
  have ROW := Lib.hid (@noww_row ks zn same (k : Int))
  rw [ec] at HIT ROW
  have UN := Lib.hid un
  obtain ⟨N, eN⟩ : ∃ N, zn.length = N := ⟨_, rfl⟩
  have EN := Lib.hid eN
  rw [eN] at cN hl ec ZERO ROW
  have EC := Lib.hid ec
  clear h hz eN un ec
  go_enter Try.func29, Try.ntmps29
  go_wp2
  go_loopw [6] (fun jv wr => NwR ks k cnd jv w wr) (fun jv _ => ks.length - (intOf jv).toNat)
  case atStart => exact ⟨0, Nat.zero_le _, rfl, rfl, fun _ m y hm => absurd hm (Nat.not_lt_zero m)⟩
  case round =>
    obtain ⟨j, hj, rfl, rfl, hno⟩ := hrel
    by_cases hlt : j < ks.length
    · have wj : IntKind.i64.wrap ((j : Int) + 1) = (j : Int) + 1 := IntWalk.i64_in _ (by omega)
      cases A with
      | none => rw [hA0 rfl] at hlt; simp at hlt
      | some ad =>
        obtain ⟨g, rfl⟩ := hA1 _ rfl
        obtain ⟨y, hy⟩ : ∃ y, ks[j]? = some y := ⟨_, List.getElem?_eq_getElem hlt⟩
        obtain ⟨_, c1, _, c3, _⟩ := OwnR.cells o j y hy
        by_cases e : y.lo = (k : Int)
        · rw [e] at c1
          cases same with
          | true =>
            obtain rfl : true = cnd := EC.out
            have F := Lib.hid (HIT.out j y rfl hy e (hno rfl))
            clear hno hy o hA0 hA1 e
            go_wp2
            go_ret
            exact ⟨by rw [F.out]; rfl, 0, rfl⟩
          | false =>
            by_cases hN : N = 0
            · subst hN
              obtain rfl : true = cnd := EC.out
              have F := Lib.hid (HIT.out j y rfl hy e (hno rfl))
              clear hno hy o hA0 hA1 e
              go_wp2
              go_ret
              exact ⟨by rw [F.out]; rfl, 0, rfl⟩
            · obtain rfl : false = cnd := by rw [← EC.out]; simp [hN]
              have n0 : ((N : Int) == 0) = false := by simp; exact hN
              clear hno hy o hA0 hA1 e
              go_wp2
              go_roundw
              case rel => exact ⟨j + 1, by omega, by go_num, rfl, fun e => by cases e⟩
              case measure => simp [intOf]; omega
        · have q0 : (y.lo == (k : Int)) = false := by simpa using e
          have HN := Lib.hid (show cnd = true → ∀ m z, m < j + 1 → ks[m]? = some z → (z.lo == (k : Int)) = false from fun hc m z hm hz => by
            by_cases q : m = j
            · subst q; rw [hy] at hz; cases hz; exact q0
            · exact hno hc m z (by omega) hz)
          obtain ⟨q, eq⟩ : ∃ q, y.lo = q := ⟨_, rfl⟩
          rw [eq] at c1 q0
          clear hno hy o hA0 hA1 e c3 eq
          go_wp2
          go_roundw
          case rel => exact ⟨j + 1, by omega, by go_num, rfl, HN.out⟩
          case measure => simp [intOf]; omega
    · obtain rfl : j = ks.length := by omega
      by_cases hN : N = 0
      · subst hN
        obtain rfl : true = cnd := by rw [← EC.out]; simp
        have F := Lib.hid (ZERO.out rfl (hno rfl))
        clear hno o hA0 hA1
        go_wp2
        go_ret
        exact ⟨by rw [F.out]; rfl, 0, rfl⟩
      · have F := Lib.hid (ROW.out hN hno)
        have n0 : ((N : Int) == 0) = false := by simp; exact hN
        have n1 : ¬ (N : Int) = 0 := by omega
        obtain ⟨r, er⟩ : ∃ r, k % N = r := ⟨_, rfl⟩
        have hr : r < N := by rw [← er]; exact Nat.mod_lt _ (by omega)
        have er1 : (k : Int).tmod (N : Int) = (r : Int) := by rw [Int.tmod_eq_emod_of_nonneg (by omega), ← er]; simp
        have mk : bits .and .i64 (k : Int) 255 = (k : Int) := (i64_mask (k : Int) 8 (by decide)).trans (by omega)
        obtain ⟨A2, c2, e2, hc2, hf2⟩ := HZ.out
        cases e2
        obtain ⟨bn, off, rfl, _, hcell⟩ := hf2 (by rw [EN.out]; omega)
        have cr := hcell r (by rw [EN.out]; exact hr)
        have ur := UN.out r (by rw [EN.out]; exact hr)
        have ex : zn.getD ((k : Int).toNat % N) 0 = zn.getD r 0 := by rw [Int.toNat_natCast, er]
        rw [ex] at F
        obtain ⟨x, exx⟩ : ∃ x, zn.getD r 0 = x := ⟨_, rfl⟩
        rw [exx] at cr ur F
        have m3 : bits .and .u64 x 3 = x % 4 := u64_maskP 2 (by decide) x ur.1 ur.2
        clear hno o hA0 hA1 hcell hf2 er ex exx
        go_wp2_with fail
        go_quiet (fail)
        go_wp2
        go_ret
        exact ⟨by rw [F.out]; rfl, _, rfl⟩
def SpR15 (cs : List ScI) (lo hi : Int) (jv : Value) (w wr : World) : Prop := ∃ j : Nat, j ≤ cs.length ∧ jv = .int .i64 j ∧ wr = w ∧ ∀ m y, m < j → cs[m]? = some y → (y.lo == lo && y.hi == hi) = false
set_option maxRecDepth 100000 in
set_option maxHeartbeats 2000000 in
theorem spw_clo (h : Rd W w t S s) (cT : w.cell? ⟨tb, 0, none⟩ = some (.pointer (some ⟨t, 0, none⟩))) (sl : s.scans.length ≤ 64) (lo hi : Int) :
    Calls Try.prog 30 #[.int .i64 lo, .int .i64 hi, .pointer (some ⟨tb, 0, none⟩)] w fun e w' => ∃ v S', e = .returned v ∧ Lies w' v (spW s.scans lo hi) ∧ Rd W w' t S' s ∧ VKeep S S' w w' := by
  go_enter Try.func30, Try.ntmps30
  go_wp2_with fail
  refine (rd_spans h).mono ?_
  rintro e w1 ⟨v, S1, T, rfl, o, _, C1, k1⟩
  have CC := Lib.hid C1
  have KK := Lib.hid k1
  obtain ⟨⟨A, c, rfl, hc, hf⟩, _, _⟩ := o
  clear h cT C1 k1
  go_wp2
  go_loopw [7] (fun jv wr => SpR15 s.scans lo hi jv w1 wr) (fun jv _ => s.scans.length - (intOf jv).toNat)
  case atStart => exact ⟨0, Nat.zero_le _, rfl, rfl, fun m y hm => absurd hm (Nat.not_lt_zero m)⟩
  case round =>
    obtain ⟨j, hj, rfl, rfl, hno⟩ := hrel
    by_cases hlt : j < s.scans.length
    · have wj : IntKind.i64.wrap ((j : Int) + 1) = (j : Int) + 1 := IntWalk.i64_in _ (by omega)
      obtain ⟨g, rfl, _, _, he⟩ := hf (by omega)
      obtain ⟨y, hy⟩ : ∃ y, s.scans[j]? = some y := ⟨_, List.getElem?_eq_getElem hlt⟩
      obtain ⟨c0, c1, u, c2, ou, _⟩ := he j y hy
      obtain ⟨Au, cu, rfl⟩ : ∃ A c, u = .slice A y.z.length c := by
        obtain ⟨A, c, e, _⟩ := OwnU.lies ou
        exact ⟨A, c, e⟩
      have lu := OwnU.lies ou
      by_cases e0 : y.lo = lo
      · by_cases e1 : y.hi = hi
        · have F := Lib.hid (show spW s.scans lo hi = y.z by unfold spW; rw [find_at hy (by simp [e0, e1]) hno])
          rw [e0] at c0
          rw [e1] at c1
          have LU := Lib.hid lu
          clear hno hy he hf ou e0 e1 lu
          go_wp2
          go_ret
          exact ⟨_, S1, rfl, by rw [F.out]; exact LU.out, CC.out, KK.out⟩
        · have HN := Lib.hid (show ∀ m z, m < j + 1 → s.scans[m]? = some z → (z.lo == lo && z.hi == hi) = false from fun m z hm hz => by
            by_cases q : m = j
            · subst q; rw [hy] at hz; cases hz; simp [e1]
            · exact hno m z (by omega) hz)
          rw [e0] at c0
          obtain ⟨q, eq⟩ : ∃ q, y.hi = q := ⟨_, rfl⟩
          rw [eq] at c1 e1
          have q1 : (q == hi) = false := by simpa using e1
          clear hno hy he ou e0 e1 lu c2 eq
          go_wp2
          go_roundw
          case rel => exact ⟨j + 1, by omega, by go_num, rfl, HN.out⟩
          case measure => simp [intOf]; omega
      · have HN := Lib.hid (show ∀ m z, m < j + 1 → s.scans[m]? = some z → (z.lo == lo && z.hi == hi) = false from fun m z hm hz => by
          by_cases q : m = j
          · subst q; rw [hy] at hz; cases hz; simp [e0]
          · exact hno m z (by omega) hz)
        obtain ⟨q, eq⟩ : ∃ q, y.lo = q := ⟨_, rfl⟩
        rw [eq] at c0 e0
        have q1 : (q == lo) = false := by simpa using e0
        clear hno hy he ou e0 lu c2 c1 eq
        go_wp2
        go_roundw
        case rel => exact ⟨j + 1, by omega, by go_num, rfl, HN.out⟩
        case measure => simp [intOf]; omega
    · obtain rfl : j = s.scans.length := by omega
      have F := Lib.hid (show spW s.scans lo hi = [] by unfold spW; rw [find_no (fun m y hy => hno m y (List.getElem?_eq_some_iff.1 hy).1 hy)])
      clear hno hf
      go_wp2
      go_ret
      exact ⟨_, S1, rfl, by rw [F.out]; exact Lies.nil _, CC.out, KK.out⟩
theorem noww_u64 {k : Int} (kb : ∀ x ∈ ks, 0 ≤ x.link ∧ x.link ≤ 3) (un : ∀ j, j < zn.length → U64 (zn.getD j 0)) : U64 (nowW ks zn same k) := by
  have row : ¬ zn.length = 0 → U64 (zn.getD (k.toNat % zn.length) 0 % 4) := fun h => by
    have := un (k.toNat % zn.length) (Nat.mod_lt _ (by omega))
    have := this.1
    exact ⟨by omega, by omega⟩
  unfold nowW
  split
  · split
    · rename_i y e
      have := kb y (List.mem_of_find?_eq_some e)
      exact ⟨this.1, by omega⟩
    · split
      · exact ⟨by omega, by omega⟩
      · rename_i h; exact row h
  · rename_i h
    refine row fun e => h ?_
    simp [e]
theorem isNowW {An : Option Addr} {cn : Nat} (hz : Lies W (.slice An zn.length cn) zn) (kb : ∀ x ∈ ks, 0 ≤ x.link ∧ x.link ≤ 3) (kl : ks.length ≤ 40) (un : ∀ j, j < zn.length → U64 (zn.getD j 0)) (hl : zn.length ≤ 9223372036854775807) :
    IsNow (.func (.func 29) #[] #[.pointer (some ⟨kb', 0, none⟩), .pointer (some ⟨sb, 0, none⟩), .pointer (some ⟨nb, 0, none⟩)]) W t s (QW nb sb kb' tb t (.slice An zn.length cn) same v1 ks) (nowW ks zn same) := by
  refine ⟨.inr ⟨_, _, rfl, fun a w => rfl, fun k w S h0 h1 h q => ?_⟩, fun k h0 h1 => noww_u64 kb un⟩
  obtain ⟨n, rfl⟩ : ∃ n : Nat, k = n := ⟨k.toNat, by omega⟩
  refine (noww_clo q (Lies.below h.b hz) kl un hl n (by omega)).mono ?_
  rintro e w' ⟨rfl, d, rfl⟩
  exact ⟨rfl, h.idle (drewN_keep _ _ _)⟩
theorem isSpnW (sl : s.scans.length ≤ 64) (sz : ∀ x ∈ s.scans, x.z.length ≤ 100000) :
    IsSpn (.func (.func 30) #[] #[.pointer (some ⟨tb, 0, none⟩)]) W t s (QW nb sb kb' tb t vn same v1 ks) (spW s.scans) := by
  refine ⟨.inr ⟨_, _, rfl, fun a w => rfl, fun lo hi w S _ _ _ h q => spw_clo h q.cT sl lo hi⟩, fun a b => ?_⟩
  unfold spW
  split
  · rename_i x e; exact sz x (List.mem_of_find?_eq_some e)
  · exact Nat.zero_le _
end
end Go.Proofs.Ytndpifkpgoeogaa
