/- Package reads as landed, first part: a Set's cells (64 Onces, the keys with their links, the ranges), cell by cell; isKey, New, Len, Link; conditions: what a Set always keeps. -/
import Derived.Test.YtndpifkpgoeogaaRdI
import Derived.Test.YtndpifkpgoeogaaOwnM
import Derived.Test.YtndpifkpgoeogaaApp
import Derived.Test.YtndpifkpgoeogaaPushN
import Derived.Deep.QuietTactic
import Derived.BigQuiet
import Derived.StillTailTactics
import Derived.Deep.RegionHeld3
namespace Go.Proofs.Ytndpifkpgoeogaa
open Go.ChangeShapes Go.WideShapes Go.ChangeAt Go.RowKit
set_option linter.unusedVariables false

/-- A key and its link; a range, with where its links lie. -/
def rdC (x : Int × Int) : List Value := [.int .i64 x.1, .int .u64 x.2]
def spC (x : ScI × Value) : List Value := [.int .i64 x.1.lo, .int .i64 x.1.hi, x.2]
theorem rdC_len (x : Int × Int) : (rdC x).length = 2 := rfl
theorem spC_len (x : ScI × Value) : (spC x).length = 3 := rfl
theorem info_rd : (Try.prog.info? 75).map (fun i => (i.zero, i.size, i.bytes)) = some (some (.agg #[.int .i64 0, .int .u64 0]), 2, 16) := by kernel_rfl
theorem info_sp : (Try.prog.info? 51).map (fun i => (i.zero, i.size, i.bytes)) = some (some (.agg #[.int .i64 0, .int .i64 0, .slice none 0 0]), 3, 40) := by kernel_rfl
/-- Whether the Once of a key is done. -/
def dnR (es : List (Int × Int)) (k : Nat) : Int := if (k : Int) ∈ es.map Prod.fst then 1 else 0
structure RdA (w : World) (t : Nat) (es : List (Int × Int)) (ps : List (ScI × Value)) (vr vs : Value) (Z : Nat → Prop) : Prop where
  c0 : ∀ k : Nat, k ≤ 63 → w.cell? ⟨t, k * 3, none⟩ = some (.int .u32 (dnR es k))
  c1 : ∀ k : Nat, k ≤ 63 → w.cell? ⟨t, k * 3 + 1, none⟩ = some (.int .i32 0)
  cr : w.cell? ⟨t, 192, none⟩ = some vr
  cs : w.cell? ⟨t, 193, none⟩ = some vs
  fz : ∀ i, w.frozen? ⟨t, i, none⟩ = false
  r : OwnM 2 rdC 75 w vr es
  p : OwnM 3 spC 51 w vs ps
  z : ∀ x ∈ ps, OwnU 0 w x.2 x.1.z
  kb : ∀ x ∈ es, 0 ≤ x.1 ∧ x.1 ≤ 63 ∧ U64 x.2
  nd : (es.map Prod.fst).Nodup
  sb : ∀ x ∈ ps, 0 ≤ x.1.lo ∧ x.1.lo ≤ x.1.hi ∧ x.1.hi ≤ 63 ∧ x.1.z.length ≤ 100000
  pl : ps.length ≤ 64
  zl : ∀ g, Z g → g < w.heap.size
  zt : ¬ Z t
  zb : ∀ x ∈ ps, ∀ g, x.2.ownBlock = some g → Z g
  rb : ∀ g, vr.ownBlock = some g → g ≠ t ∧ ¬ Z g
  sn : ∀ g, vs.ownBlock = some g → g ≠ t ∧ ¬ Z g ∧ vr.ownBlock ≠ some g
section
variable {w w' : World} {t : Nat} {es : List (Int × Int)} {ps : List (ScI × Value)} {vr vs : Value} {Z T : Nat → Prop}
theorem nodup_int : ∀ (n : Nat) (q : List Int), q.Nodup → (∀ x ∈ q, 0 ≤ x ∧ x < n) → q.length ≤ n
  | 0, q, _, h => by
    cases q with
    | nil => simp
    | cons a q => have := h a (by simp); omega
  | n + 1, q, hq, h => by
    have hi := nodup_int n (q.erase (n : Int)) (hq.erase _) (fun x hx => by
      have h1 := h x (List.mem_of_mem_erase hx)
      have h2 := (List.Nodup.mem_erase_iff hq).1 hx
      have := h2.1
      omega)
    have := List.length_erase (a := (n : Int)) (l := q)
    split at this <;> omega
theorem RdA.short (h : RdA w t es ps vr vs Z) : es.length ≤ 64 := by
  have := nodup_int 64 (es.map Prod.fst) h.nd (fun x hx => by
    obtain ⟨y, hy, rfl⟩ := List.mem_map.1 hx
    have := h.kb y hy
    omega)
  simpa using this
theorem RdA.lt (h : RdA w t es ps vr vs Z) : t < w.heap.size := lt_of_cell (a := ⟨t, 192, none⟩) h.cr
/-- What a Set lies in. -/
def FootR (t : Nat) (vr vs : Value) (Z : Nat → Prop) (j : Nat) : Prop := j = t ∨ vr.ownBlock = some j ∨ vs.ownBlock = some j ∨ Z j
theorem RdA.foot_lt (h : RdA w t es ps vr vs Z) (j : Nat) (hj : FootR t vr vs Z j) : j < w.heap.size := by
  rcases hj with rfl | hj | hj | hj
  · exact h.lt
  · exact h.r.lt hj
  · exact h.p.lt hj
  · exact h.zl j hj
theorem RdA.keep (h : RdA w t es ps vr vs Z) (k : Keep T w w') (hn : ∀ j, FootR t vr vs Z j → ¬ T j) : RdA w' t es ps vr vs Z :=
  have nt : ¬ T t := hn t (.inl rfl)
  { c0 := fun i hi => k.cell (h.c0 i hi) nt
    c1 := fun i hi => k.cell (h.c1 i hi) nt
    cr := k.cell h.cr nt
    cs := k.cell h.cs nt
    fz := fun i => (k.frozen (a := ⟨t, i, none⟩) h.lt nt).trans (h.fz i)
    r := h.r.keep k (fun g hg => hn g (.inr (.inl hg)))
    p := h.p.keep k (fun g hg => hn g (.inr (.inr (.inl hg))))
    z := fun x hx => OwnU.keep (h.z x hx) k (fun g hg => hn g (.inr (.inr (.inr (h.zb x hx g hg)))))
    kb := h.kb
    nd := h.nd
    sb := h.sb
    pl := h.pl
    zl := fun g hg => Nat.lt_of_lt_of_le (h.zl g hg) k.size
    zt := h.zt
    zb := h.zb
    rb := h.rb
    sn := h.sn }
theorem RdA.same (h : RdA w t es ps vr vs Z) (k : Keep (fun _ => False) w w') : RdA w' t es ps vr vs Z := h.keep k (fun _ _ => id)
theorem iskey_any (n : Int) (w : World) : Calls Try.prog 32 #[.int .i64 n] w fun e w' => e = .returned (.bool (decide (0 ≤ n ∧ n ≤ 63))) ∧ w = w' := by
  by_cases h0 : 0 ≤ n
  · by_cases h1 : n ≤ 63
    · rw [decide_eq_true ⟨h0, h1⟩]
      go_enter Try.func32, Try.ntmps32
      go_wp2
      go_ret
      exact ⟨rfl, rfl⟩
    · rw [decide_eq_false (fun h => h1 h.2)]
      go_enter Try.func32, Try.ntmps32
      go_wp2
      go_ret
      exact ⟨rfl, rfl⟩
  · rw [decide_eq_false (fun h => h0 h.1)]
    go_enter Try.func32, Try.ntmps32
    go_wp2
    go_ret
    exact ⟨rfl, rfl⟩
theorem iskey_yes (n : Int) (h0 : 0 ≤ n) (h1 : n ≤ 63) (w : World) : Calls Try.prog 32 #[.int .i64 n] w fun e w' => e = .returned (.bool true) ∧ w = w' := by
  have := iskey_any n w
  rwa [decide_eq_true ⟨h0, h1⟩] at this
theorem iskey_no (n : Int) (h : n < 0 ∨ 63 < n) (w : World) : Calls Try.prog 32 #[.int .i64 n] w fun e w' => e = .returned (.bool false) ∧ w = w' := by
  have := iskey_any n w
  rwa [decide_eq_false (by omega)] at this
/-- The zero value of a Set, cell by cell. -/
noncomputable def rdZ : Array Value := ((Try.prog.info? 71).bind (fun i => i.zero)).elim #[] Value.cells
def isU (u : Option Value) : Bool := match u with | some (.int .u32 0) => true | _ => false
def isI (u : Option Value) : Bool := match u with | some (.int .i32 0) => true | _ => false
def isNS (u : Option Value) : Bool := match u with | some (.slice none 0 0) => true | _ => false
theorem isU_eq {u : Option Value} (h : isU u = true) : u = some (.int .u32 0) := by unfold isU at h; split at h; rfl; cases h
theorem isI_eq {u : Option Value} (h : isI u = true) : u = some (.int .i32 0) := by unfold isI at h; split at h; rfl; cases h
theorem isNS_eq {u : Option Value} (h : isNS u = true) : u = some (.slice none 0 0) := by unfold isNS at h; split at h; rfl; cases h
theorem rdZ_all : (List.range 64).all (fun k => isU rdZ[k * 3]? && isI rdZ[k * 3 + 1]?) = true := by kernel_rfl
theorem rdZ_r : isNS rdZ[192]? = true := by kernel_rfl
theorem rdZ_s : isNS rdZ[193]? = true := by kernel_rfl
theorem rdZ_k (k : Nat) (hk : k ≤ 63) : rdZ[k * 3]? = some (.int .u32 0) ∧ rdZ[k * 3 + 1]? = some (.int .i32 0) := by
  have := List.all_eq_true.1 rdZ_all k (List.mem_range.2 (by omega))
  rw [Bool.and_eq_true] at this
  exact ⟨isU_eq this.1, isI_eq this.2⟩
theorem info_set : (Try.prog.info? 71).map (fun i => (i.zero, i.size)) = some (some (.agg rdZ), 194) := by kernel_rfl
theorem zero_set (w : World) : (zeroValue 71).run Try.prog w = .ok (.agg rdZ) w := by
  have h := info_set
  cases e : Try.prog.info? 71 with
  | none => rw [e] at h; cases h
  | some i =>
    rw [e] at h
    simp at h
    simp [zeroValue, typeInfo, e, h.1]
theorem new_any (w : World) : Calls Try.prog 9 #[] w fun e w' => ∃ t, e = .returned (.pointer (some ⟨t, 0, none⟩)) ∧ RdA w' t [] [] (.slice none 0 0) (.slice none 0 0) (fun _ => False) ∧ Keep (fun _ => False) w w' ∧ w.heap.size ≤ t := by
  have hz := zero_set
  have k1 := Keep.alloc (Keep.refl (fun _ => False) w) (.cells rdZ 71)
  have hc : ∀ i, (w.alloc (.cells rdZ 71)).cell? ⟨w.heap.size, i, none⟩ = rdZ[i]? := fun i => by simp
  have hf : ∀ i, (w.alloc (.cells rdZ 71)).frozen? ⟨w.heap.size, i, none⟩ = false := fun i => by simp
  have H := Lib.hid (show RdA (w.alloc (.cells rdZ 71)) w.heap.size [] [] (.slice none 0 0) (.slice none 0 0) (fun _ => False) from
    { c0 := fun k hk => by rw [hc, (rdZ_k k hk).1]; rfl
      c1 := fun k hk => by rw [hc, (rdZ_k k hk).2]
      cr := by rw [hc]; exact isNS_eq rdZ_r
      cs := by rw [hc]; exact isNS_eq rdZ_s
      fz := hf
      r := OwnM.nil
      p := OwnM.nil
      z := fun x hx => by simp at hx
      kb := fun x hx => by simp at hx
      nd := by simp
      sb := fun x hx => by simp at hx
      pl := Nat.zero_le _
      zl := fun g hg => hg.elim
      zt := id
      zb := fun x hx => by simp at hx
      rb := fun g hg => by cases hg
      sn := fun g hg => by cases hg })
  clear hc hf
  go_enter Try.func9, Try.ntmps9
  go_wp2
  go_ret
  exact ⟨_, rfl, H.out, k1, Nat.le_refl _⟩
end
end Go.Proofs.Ytndpifkpgoeogaa
