/- Package hash, third part: an Index's cells and its buckets in memory; Bucket, New, makeBuckets, lists, look; condition: 1 to 64 buckets, at most 1000 entries a bucket. -/
import Derived.Test.YtmfpjnlplimkeaaGreatLawHashPlaysZak
import Derived.Test.YtmfpjnlplimkeaaGreatLawHashPlaysZah
import Derived.Test.YtmfpjnlplimkeaaGreatLawHashPlaysZab
import Derived.Test.YtmfpjnlplimkeaaGreatLawHashPlaysZad
import Derived.Deep.QuietTactic
import Derived.BigQuiet
import Derived.StillTailTactics
namespace Go.Proofs.YtmfpjnlplimkeaaGreat
open Go.ChangeShapes Go.WideShapes Go.ChangeAt Go.RowKit
set_option linter.unusedVariables false

def dnV (mk : Option Nat) : Int := if mk.isSome then 1 else 0
def bkV (mk : Option Nat) (n : Nat) : Value := match mk with | some B => .slice (some ⟨B, 0, none⟩) n n | none => .slice none 0 0
/-- The cells of an Index: its Store, how many buckets; the buckets are made in block B, or not yet. -/
structure Idx (w : World) (x p n : Nat) (mk : Option Nat) : Prop where
  c0 : w.cell? ⟨x, 0, none⟩ = some (.pointer (some ⟨p, 0, none⟩))
  c1 : w.cell? ⟨x, 1, none⟩ = some (.int .i64 n)
  c2 : w.cell? ⟨x, 2, none⟩ = some (.int .u32 (dnV mk))
  c3 : w.cell? ⟨x, 3, none⟩ = some (.int .i32 0)
  c5 : w.cell? ⟨x, 5, none⟩ = some (bkV mk n)
  fz : ∀ i, w.frozen? ⟨x, i, none⟩ = false
/-- The buckets: each one's slice in block B, and its entries in a row of its own. -/
structure Bkt (w : World) (n B : Nat) (vs : Nat → Value) (es : Nat → List (Nat × Nat)) : Prop where
  lt : B < w.heap.size
  cell : ∀ b, b < n → w.cell? ⟨B, b, none⟩ = some (vs b)
  fz : ∀ i, w.frozen? ⟨B, i, none⟩ = false
  row : ∀ b, b < n → OwnE w (vs b) (es b)
section
variable {w w' : World} {x p n B : Nat} {mk : Option Nat} {vs : Nat → Value} {es : Nat → List (Nat × Nat)} {T : Nat → Prop}
theorem Idx.lt (h : Idx w x p n mk) : x < w.heap.size := lt_of_cell (a := ⟨x, 0, none⟩) h.c0
theorem Idx.keep (h : Idx w x p n mk) (k : Keep T w w') (hx : ¬ T x) : Idx w' x p n mk :=
  ⟨k.cell h.c0 hx, k.cell h.c1 hx, k.cell h.c2 hx, k.cell h.c3 hx, k.cell h.c5 hx, fun i => (k.frozen (a := ⟨x, i, none⟩) h.lt hx).trans (h.fz i)⟩
theorem Bkt.keep (h : Bkt w n B vs es) (k : Keep T w w') (hB : ¬ T B) (hv : ∀ b, b < n → ∀ g, (vs b).ownBlock = some g → ¬ T g) : Bkt w' n B vs es :=
  ⟨Nat.lt_of_lt_of_le h.lt k.size, fun b hb => k.cell (h.cell b hb) hB, fun i => (k.frozen (a := ⟨B, i, none⟩) h.lt hB).trans (h.fz i), fun b hb => OwnM.keep (h.row b hb) k (hv b hb)⟩
end
/-- Of numbers: which bucket. -/
theorem bucket_any (key n : Int) (w : World) : Calls Tryz.prog 18 #[.int .i64 key, .int .i64 n] w fun y w' => y = .returned (.int .i64 (bktI key n)) ∧ w = w' := by
  obtain ⟨r, hr⟩ : ∃ r, bktI key n = r := ⟨_, rfl⟩
  rw [hr]
  by_cases hb : key < 0 ∨ 63 < key ∨ n < 1 ∨ 64 < n
  · obtain rfl : r = -1 := by rw [← hr]; exact if_pos hb
    clear hr
    go_enter Tryz.func18, Tryz.ntmps18
    by_cases h0 : key < 0
    · go_wp2
      go_ret
      exact ⟨rfl, rfl⟩
    · by_cases h1 : 63 < key
      · go_wp2
        go_ret
        exact ⟨rfl, rfl⟩
      · by_cases h2 : n < 1
        · go_wp2
          go_ret
          exact ⟨rfl, rfl⟩
        · have h3 : 64 < n := by omega
          go_wp2
          go_ret
          exact ⟨rfl, rfl⟩
  · have hv : r = key * 2654435769 % 4294967296 / 65536 % n := by rw [← hr]; exact if_neg hb
    clear hr
    have a0 : ¬ key < 0 := by omega
    have a1 : ¬ 63 < key := by omega
    have a2 : ¬ n < 1 := by omega
    have a3 : ¬ 64 < n := by omega
    have a4 : ¬ n = 0 := by omega
    have e1 : IntKind.u32.wrap key = key := by rw [IntKind.wrap_u32]; omega
    have e2 : IntKind.u32.wrap (key * 2654435769) = key * 2654435769 % 4294967296 := by rw [IntKind.wrap_u32]
    obtain ⟨y, ey⟩ : ∃ y, key * 2654435769 % 4294967296 = y := ⟨_, rfl⟩
    rw [ey] at e2 hv
    have yb : 0 ≤ y ∧ y < 4294967296 := by omega
    clear hb ey
    go_enter Tryz.func18, Tryz.ntmps18
    go_wp2
    go_ret
    exact ⟨rfl, rfl⟩
theorem info_bkt : (Tryz.prog.info? 81).map (fun i => (i.zero, i.size, i.bytes)) = some (some (.slice none 0 0), 1, 24) := by kernel_rfl
section
variable {w w' : World} {x p n B : Nat} {mk : Option Nat} {vs : Nat → Value} {es : Nat → List (Nat × Nat)} {T : Nat → Prop}
/-- The buckets are made: they are empty; what turned is the Index's own block. -/
theorem make_bkts (n1 : n ≤ 64) (c1 : w.cell? ⟨x, 1, none⟩ = some (.int .i64 n)) (c5 : w.cell? ⟨x, 5, none⟩ = some (.slice none 0 0)) (f5 : w.frozen? ⟨x, 5, none⟩ = false) :
    Calls Tryz.prog 59 #[.pointer (some ⟨x, 0, none⟩)] w fun e w' => e = .returned (.tuple #[]) ∧ ∃ B w1, w' = w1.setCell ⟨x, 5, none⟩ (.slice (some ⟨B, 0, none⟩) n n) ∧ Bkt w1 n B (fun _ => .slice none 0 0) (fun _ => []) ∧ Keep (fun _ => False) w w1 ∧ w.heap.size ≤ B := by
  obtain ⟨i0, hi, hz0, hz1, hz2⟩ := info_parts info_bkt
  have lx := lt_of_cell (a := ⟨x, 1, none⟩) c1
  go_enter Tryz.func59, Tryz.ntmps59
  go_wp2_with (with_reducible refine wpList_make_full _ rfl (.tmp 6) (.tmp 6) 74 rfl w.heap.size 81 i0 (.slice none 0 0) 1 Tryz.underlying74 hi hz0 hz1 .i64 .i64 n n n rfl rfl rfl rfl (by rw [hz2]; omega) (by unfold maxLen; omega) (Nat.le_refl _) ?_)
  intro x1 o1 gr1
  have e : (madeCells #[.slice none 0 0] n).toList = List.replicate n (.slice none 0 0) := toList_madeCells_one _ _
  have o1 : x1.ownsRow w.heap.size 81 1 (.slice (some ⟨w.heap.size, 0, none⟩) n n) n (List.replicate n (.slice none 0 0)) := by rw [← e]; exact o1
  have k1 := keep_grownP gr1 (fun _ => False)
  have y5 := k1.cell c5 (by simp)
  have z5 := (k1.frozen (a := ⟨x, 5, none⟩) lx (by simp)).trans f5
  have bk : Bkt x1 n w.heap.size (fun _ => .slice none 0 0) (fun _ => []) := ⟨(World.ownsRow.lt o1 w.heap.size rfl).2, fun b hb => by
    rw [World.ownsRow.cellAt o1 b (by omega)]
    simp [hb], fun i => World.ownsRow.frozenAt o1 i, fun b hb => OwnM.nil⟩
  clear gr1 o1 e c1 c5 f5
  go_wp2
  go_end0
  exact ⟨rfl, w.heap.size, x1, rfl, bk, k1, Nat.le_refl _⟩
/-- What a call of lists leaves: the buckets are there. -/
def LstP (x p n : Nat) (mk : Option Nat) (vs : Nat → Value) (es : Nat → List (Nat × Nat)) (w : World) (B : Nat) (w' : World) : Prop :=
  Idx w' x p n (some B) ∧ Bkt w' n B vs es ∧ Keep (fun j => j = x) w w' ∧ (mk = some B ∨ w.heap.size ≤ B)
/-- The buckets, where they are made; else nothing is in any. -/
def HasB (w : World) (n : Nat) (mk : Option Nat) (vs : Nat → Value) (es : Nat → List (Nat × Nat)) : Prop :=
  match mk with | some B => Bkt w n B vs es | none => vs = (fun _ => .slice none 0 0) ∧ es = fun _ => []
theorem HasB.keep (hb : HasB w n mk vs es) (k : Keep T w w') (hB : ∀ B, mk = some B → ¬ T B) (hv : ∀ B, mk = some B → ∀ b, b < n → ∀ g, (vs b).ownBlock = some g → ¬ T g) : HasB w' n mk vs es := by
  cases mk with
  | none => exact hb
  | some B => exact Bkt.keep hb k (hB B rfl) (hv B rfl)
theorem lists_any (n1 : n ≤ 64) (h : Idx w x p n mk) (hb : HasB w n mk vs es) :
    Calls Tryz.prog 41 #[.pointer (some ⟨x, 0, none⟩)] w fun e w' => ∃ B, e = .returned (.slice (some ⟨B, 0, none⟩) n n) ∧ LstP x p n mk vs es w B w' := by
  cases mk with
  | some B =>
    have c5 := h.c5
    have hd := once_done x 2 (.func (.func 59) #[.pointer (some ⟨x, 0, none⟩)] #[]) w h.c2
    go_enter Tryz.func41, Tryz.ntmps41
    go_wp2_with fail
    refine hd.mono ?_
    rintro e w' ⟨rfl, rfl⟩
    clear hd
    go_wp2
    go_ret
    exact ⟨B, rfl, h, hb, Keep.refl _ _, .inl rfl⟩
  | none =>
    obtain ⟨rfl, rfl⟩ := hb
    have lx := h.lt
    have hd : Calls Tryz.prog 47 #[.pointer (some ⟨x, 2, none⟩), .func (.func 59) #[.pointer (some ⟨x, 0, none⟩)] #[]] w fun e w' => e = .returned (.tuple #[]) ∧ ∃ B, LstP x p n none (fun _ => .slice none 0 0) (fun _ => []) w B w' := by
      have f3 : w.frozen? ⟨x, 2 + 1, none⟩ = false := h.fz 3
      have kp : Keep (fun z => z = x) w (w.setCell ⟨x, 2 + 1, none⟩ (.int .i32 1)) := keep_one w ⟨x, 3, none⟩ _
      obtain ⟨w0, e0⟩ : ∃ w0, w.setCell ⟨x, 2 + 1, none⟩ (.int .i32 1) = w0 := ⟨_, rfl⟩
      have a0 : w0.cell? ⟨x, 0, none⟩ = some (.pointer (some ⟨p, 0, none⟩)) := by rw [← e0, World.cell?_setCell_other _ _ _ _ (by simp)]; exact h.c0
      have a1 : w0.cell? ⟨x, 1, none⟩ = some (.int .i64 n) := by rw [← e0, World.cell?_setCell_other _ _ _ _ (by simp)]; exact h.c1
      have a2 : w0.cell? ⟨x, 2, none⟩ = some (.int .u32 0) := by rw [← e0, World.cell?_setCell_other _ _ _ _ (by simp)]; exact h.c2
      have a3 : w0.cell? ⟨x, 3, none⟩ = some (.int .i32 1) := by rw [← e0]; exact World.cell?_setCell_same _ _ _ h.c3
      have a5 : w0.cell? ⟨x, 5, none⟩ = some (.slice none 0 0) := by rw [← e0, World.cell?_setCell_other _ _ _ _ (by simp)]; exact h.c5
      have fz : ∀ i, w0.frozen? ⟨x, i, none⟩ = false := fun i => by rw [← e0, World.frozen?_setCell]; exact h.fz i
      refine (once_firstH x 2 _ (fun w2 => ∃ B w1, w2 = w1.setCell ⟨x, 5, none⟩ (.slice (some ⟨B, 0, none⟩) n n) ∧ Bkt w1 n B (fun _ => .slice none 0 0) (fun _ => []) ∧ Keep (fun _ => False) w0 w1 ∧ w0.heap.size ≤ B) w h.c2 h.c3 f3 ?_).mono ?_
      · rw [e0]
        refine (make_bkts n1 a1 a5 (fz 5)).mono ?_
        rintro e w' ⟨rfl, B, w1, rfl, bk, k1, hB⟩
        have l0 : x < w0.heap.size := Nat.lt_of_lt_of_le lx (by rw [← e0]; exact kp.size)
        refine ⟨rfl, ⟨B, w1, rfl, bk, k1, hB⟩, ?_, ?_, ?_, ?_⟩
        · rw [World.cell?_setCell_other _ _ _ _ (by simp)]; exact k1.cell a2 (by simp)
        · rw [World.cell?_setCell_other _ _ _ _ (by simp)]; exact k1.cell a3 (by simp)
        · rw [World.frozen?_setCell]; exact (k1.frozen (a := ⟨x, 2, none⟩) l0 (by simp)).trans (fz 2)
        · rw [World.frozen?_setCell]; exact (k1.frozen (a := ⟨x, 3, none⟩) l0 (by simp)).trans (fz 3)
      · rintro e w' ⟨rfl, w2, ⟨B, w1, rfl, bk, k1, hB⟩, rfl⟩
        have l0 : x < w0.heap.size := Nat.lt_of_lt_of_le lx (by rw [← e0]; exact kp.size)
        have nB : B ≠ x := by omega
        have g0 := k1.cell a0 (by simp)
        have g1 := k1.cell a1 (by simp)
        have g2 := k1.cell a2 (by simp)
        have g3 := k1.cell a3 (by simp)
        have g5 := k1.cell a5 (by simp)
        have gz : ∀ i, w1.frozen? ⟨x, i, none⟩ = false := fun i => (k1.frozen (a := ⟨x, i, none⟩) l0 (by simp)).trans (fz i)
        obtain ⟨y1, ey1⟩ : ∃ y, w1.setCell ⟨x, 5, none⟩ (.slice (some ⟨B, 0, none⟩) n n) = y := ⟨_, rfl⟩
        have h0 : y1.cell? ⟨x, 0, none⟩ = some (.pointer (some ⟨p, 0, none⟩)) := by rw [← ey1, World.cell?_setCell_other _ _ _ _ (by simp)]; exact g0
        have h1 : y1.cell? ⟨x, 1, none⟩ = some (.int .i64 n) := by rw [← ey1, World.cell?_setCell_other _ _ _ _ (by simp)]; exact g1
        have h2 : y1.cell? ⟨x, 2, none⟩ = some (.int .u32 0) := by rw [← ey1, World.cell?_setCell_other _ _ _ _ (by simp)]; exact g2
        have h3 : y1.cell? ⟨x, 3, none⟩ = some (.int .i32 1) := by rw [← ey1, World.cell?_setCell_other _ _ _ _ (by simp)]; exact g3
        have h5 : y1.cell? ⟨x, 5, none⟩ = some (.slice (some ⟨B, 0, none⟩) n n) := by rw [← ey1]; exact World.cell?_setCell_same _ _ _ g5
        have hz : ∀ i, y1.frozen? ⟨x, i, none⟩ = false := fun i => by rw [← ey1, World.frozen?_setCell]; exact gz i
        have kk1 : Keep (fun j => j = x) w1 y1 := by rw [← ey1]; exact keep_one w1 ⟨x, 5, none⟩ _
        rw [ey1]
        obtain ⟨y2, ey2⟩ : ∃ y, y1.drew.setCell ⟨x, 2, none⟩ (.int .u32 1) = y := ⟨_, rfl⟩
        have i0 : y2.cell? ⟨x, 0, none⟩ = some (.pointer (some ⟨p, 0, none⟩)) := by rw [← ey2, World.cell?_setCell_other _ _ _ _ (by simp)]; exact h0
        have i1 : y2.cell? ⟨x, 1, none⟩ = some (.int .i64 n) := by rw [← ey2, World.cell?_setCell_other _ _ _ _ (by simp)]; exact h1
        have i2 : y2.cell? ⟨x, 2, none⟩ = some (.int .u32 1) := by rw [← ey2]; exact World.cell?_setCell_same (w := y1.drew) _ _ h2
        have i3 : y2.cell? ⟨x, 3, none⟩ = some (.int .i32 1) := by rw [← ey2, World.cell?_setCell_other _ _ _ _ (by simp)]; exact h3
        have i5 : y2.cell? ⟨x, 5, none⟩ = some (.slice (some ⟨B, 0, none⟩) n n) := by rw [← ey2, World.cell?_setCell_other _ _ _ _ (by simp)]; exact h5
        have iz : ∀ i, y2.frozen? ⟨x, i, none⟩ = false := fun i => by rw [← ey2, World.frozen?_setCell]; exact hz i
        have kk2 : Keep (fun j => j = x) y1 y2 := by rw [← ey2]; exact Keep.setCell (S := fun j => j = x) (Keep.refl _ y1).drew rfl _
        rw [ey2]
        have kk3 : Keep (fun j => j = x) y2 (y2.setCell ⟨x, 2 + 1, none⟩ (.int .i32 0)) := keep_one y2 ⟨x, 3, none⟩ _
        have kw0 : Keep (fun j => j = x) w w0 := by rw [← e0]; exact kp
        have KK := kk1.trans (kk2.trans kk3)
        refine ⟨rfl, B, ⟨?_, ?_, ?_, World.cell?_setCell_same _ _ _ i3, ?_, fun i => ?_⟩, bk.keep KK nB (fun b _ g hg => by cases hg), (kw0.trans (k1.mono (by simp))).trans KK, .inr (Nat.le_trans kw0.size hB)⟩
        · rw [World.cell?_setCell_other _ _ _ _ (by simp)]; exact i0
        · rw [World.cell?_setCell_other _ _ _ _ (by simp)]; exact i1
        · rw [World.cell?_setCell_other _ _ _ _ (by simp)]; exact i2
        · rw [World.cell?_setCell_other _ _ _ _ (by simp)]; exact i5
        · rw [World.frozen?_setCell]; exact iz i
    go_enter Tryz.func41, Tryz.ntmps41
    go_wp2_with fail
    refine hd.mono ?_
    rintro e w' ⟨rfl, B, L⟩
    have c5 : w'.cell? ⟨x, 5, none⟩ = some (.slice (some ⟨B, 0, none⟩) n n) := L.1.c5
    clear hd
    go_wp2
    go_ret
    exact ⟨B, rfl, L⟩
set_option maxRecDepth 100000 in
/-- A look for a key: its bucket, and its place there. -/
theorem look_any (h : Idx w x p n mk) (hb : HasB w n mk vs es) (n0 : 1 ≤ n) (n1 : n ≤ 64) (key b : Nat) (k1 : key ≤ 63) (eb : bktI key n = b) (hl : (es b).length ≤ 1000) :
    Calls Tryz.prog 23 #[.pointer (some ⟨x, 0, none⟩), .int .i64 key] w fun e w' => ∃ B, e = .returned (.tuple #[.int .i64 b, .int .i64 (placeE key (es b))]) ∧ LstP x p n mk vs es w B w' := by
  have bn : b < n := by
    have := bktI_b key n (by omega) (by omega) (by omega) (by omega)
    omega
  have c1 := h.c1
  have lx := h.lt
  have kA : Keep (fun _ => False) w (w.alloc (.cells #[.int .i64 key] 3)) := Keep.alloc (Keep.refl _ w) _
  have hk : (w.alloc (.cells #[.int .i64 key] 3)).cell? ⟨w.heap.size, 0, none⟩ = some (.int .i64 key) := by simp
  go_enter Tryz.func23, Tryz.ntmps23
  go_wp2_with fail
  generalize w.alloc (.cells #[.int .i64 key] 3) = W0 at kA hk ⊢
  have c1' := kA.cell c1 (by simp)
  have kd := kA.drew
  have hkd : W0.drew.cell? ⟨w.heap.size, 0, none⟩ = some (.int .i64 key) := hk
  go_still_tail 5, (by kernel_rfl)
  change wpList _ _ _ _ _ W0.drew
  go_wp2_with fail
  refine (bucket_any key n _).mono ?_
  rintro e w' ⟨rfl, rfl⟩
  rw [eb]
  have h1 := h.keep kd (by simp)
  have hb1 := hb.keep kd (by simp) (by simp)
  have sz1 := kd.size
  have lk : w.heap.size < W0.drew.heap.size := lt_of_cell (a := ⟨w.heap.size, 0, none⟩) hkd
  clear hk c1' c1 hb h kA
  generalize W0.drew = W1 at h1 hb1 kd hkd sz1 lk ⊢
  have hls := lists_any n1 h1 hb1
  go_wp2_with fail
  refine hls.mono ?_
  rintro e W2 ⟨B, rfl, i2, b2, k2, m2⟩
  clear hls h1 hb1
  have cb := b2.cell b bn
  have ck := k2.cell hkd (show ¬ w.heap.size = x by omega)
  have bi : (b : Int) < (n : Int) := by omega
  have hix := index_ent (b2.row b bn) (by omega) key w.heap.size ck
  have xB : x < W2.heap.size := i2.lt
  have sz2 := k2.size
  have F : ∀ w3, Below W2.heap.size W2 w3 → LstP x p n mk vs es w B w3 := fun w3 b3 => by
    have k3 := Keep.of_below b3 (fun _ => False)
    exact ⟨i2.keep k3 (by simp), b2.keep k3 (by simp) (by simp), (kd.mono (by simp)).trans (k2.trans (k3.mono (by simp))), m2.imp_right (by omega)⟩
  have F := Lib.hid F
  clear i2 b2 k2 hkd ck kd
  go_wp2_with fail
  refine hix.mono ?_
  rintro e w3 ⟨rfl, b3⟩
  clear hix cb
  go_wp2
  go_ret2
  exact ⟨B, rfl, F.out _ b3⟩
set_option maxRecDepth 100000 in
/-- .. of a key that there is not. -/
theorem look_no (h : Idx w x p n mk) (key : Int) (k1 : key < 0 ∨ 63 < key) :
    Calls Tryz.prog 23 #[.pointer (some ⟨x, 0, none⟩), .int .i64 key] w fun e w' => e = .returned (.tuple #[.int .i64 (-1), .int .i64 (-1)]) ∧ Keep (fun _ => False) w w' := by
  have c1 := h.c1
  have eb : bktI key n = -1 := if_pos (by omega)
  have kA : Keep (fun _ => False) w (w.alloc (.cells #[.int .i64 key] 3)) := Keep.alloc (Keep.refl _ w) _
  have hk : (w.alloc (.cells #[.int .i64 key] 3)).cell? ⟨w.heap.size, 0, none⟩ = some (.int .i64 key) := by simp
  go_enter Tryz.func23, Tryz.ntmps23
  go_wp2_with fail
  generalize w.alloc (.cells #[.int .i64 key] 3) = W0 at kA hk ⊢
  have c1' := kA.cell c1 (by simp)
  have kd := kA.drew
  go_still_tail 5, (by kernel_rfl)
  change wpList _ _ _ _ _ W0.drew
  go_wp2_with fail
  refine (bucket_any key n _).mono ?_
  rintro e w' ⟨rfl, rfl⟩
  rw [eb]
  clear hk c1' c1 h kA
  go_wp2
  go_ret2
  exact ⟨rfl, kd⟩
end
end Go.Proofs.YtmfpjnlplimkeaaGreat
