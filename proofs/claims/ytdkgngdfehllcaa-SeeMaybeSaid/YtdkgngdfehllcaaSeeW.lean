/- The statements' own Word; a closure that tells of a slice's transactions; conditions: the slice reads as that list. -/
import Derived.Test.YtdkgngdfehllcaaSeeD
import Derived.Test.YtdkgngdfehllcaaMask
namespace Go.Proofs.Ytdkgngdfehllcaa
open Go.ChangeShapes Go.WideShapes Go.ChangeAt Go.RowKit
set_option linter.unusedVariables false

def wordI (k n : Int) : Int := if k % 4 = 0 then n % 32 else if k % 4 = 1 then 4611686018427387904 + n % 8 else if k % 4 = 2 then 2305843009213693952 else n
theorem wordI_b (k n : Int) (h0 : 0 ≤ n) (h1 : n ≤ 18446744073709551615) : 0 ≤ wordI k n ∧ wordI k n ≤ 18446744073709551615 := by
  unfold wordI
  split
  · omega
  · split
    · omega
    · split <;> omega
theorem word7_any (k n : Int) (h0 : 0 ≤ n) (h1 : n ≤ 18446744073709551615) (w : World) : Calls Try.prog 21 #[.int .i64 k, .int .u64 n] w fun e w' => e = .returned (.int .u64 (wordI k n)) ∧ w = w' := by
  have hk := i64_mask2 k
  have m5 := u64_mask5 n h0 h1
  have m3 := u64_mask3 n h0 h1
  obtain ⟨j, ej⟩ : ∃ j, k % 4 = j := ⟨_, rfl⟩
  have hj : 0 ≤ j ∧ j ≤ 3 := by omega
  unfold wordI
  rw [ej] at hk ⊢
  clear ej
  rcases (by omega : j = 0 ∨ j = 1 ∨ j = 2 ∨ j = 3) with rfl | rfl | rfl | rfl
  · go_enter Try.func21, Try.ntmps21
    go_wp2
    go_ret
    exact ⟨rfl, rfl⟩
  · have e1 : IntKind.u64.wrap (4611686018427387904 + n % 8) = 4611686018427387904 + n % 8 := IntWalk.u64_in _ (by omega)
    go_enter Try.func21, Try.ntmps21
    go_wp2
    go_ret
    exact ⟨rfl, rfl⟩
  · go_enter Try.func21, Try.ntmps21
    go_wp2_with fail
    refine (ever7_any _).mono ?_
    rintro e w1 ⟨rfl, rfl⟩
    go_wp2
    go_ret
    exact ⟨rfl, rfl⟩
  · go_enter Try.func21, Try.ntmps21
    go_wp2
    go_ret
    exact ⟨rfl, rfl⟩
/-- The variable that a closure has caught holds the slice, which reads as f. -/
structure Told (g : Nat) (A : Option Addr) (n c : Nat) (f : Nat → Ot) (w : World) : Prop where
  v : w.cell? ⟨g, 0, none⟩ = some (.slice A n c)
  o : IsOth w A n c f
theorem IsOth.below {w w' : World} {A : Option Addr} {n c : Nat} {f : Nat → Ot} (h : IsOth w A n c f) (b : Below w.heap.size w w') : IsOth w' A n c f := h.keep (Keep.of_below b (fun _ => False)) (by simp)
theorem Told.below {g : Nat} {A : Option Addr} {n c : Nat} {f : Nat → Ot} {w w' : World} (h : Told g A n c f w) (b : Below w.heap.size w w') : Told g A n c f w' := ⟨(b.cell (p := ⟨g, 0, none⟩) (lt_of_cell h.v)).trans h.v, h.o.below b⟩
theorem clo_tells {g : Nat} {A : Option Addr} {n c : Nat} {f : Nat → Ot} {w : World} (h : Told g A n c f w) (id : Int) (i0 : -9223372036854775808 ≤ id) (i1 : id ≤ 9223372036854775807) : Calls Try.prog 26 #[.int .i64 id, .pointer (some ⟨g, 0, none⟩)] w fun e w' => e = .returned (lookV (lookL f n id)) ∧ Below w.heap.size w w' := by
  have k1 := Keep.alloc (Keep.refl (fun _ => False) w) (.cells #[.int .i64 0, .int .i64 0, .int .u64 0, .int .u64 0] 24)
  have hT := h.below (k1.below (Nat.le_refl _) (by simp))
  obtain ⟨N, eN⟩ : ∃ N, w.heap.size = N := ⟨_, rfl⟩
  have y : ∀ i, (w.alloc (.cells #[.int .i64 0, .int .i64 0, .int .u64 0, .int .u64 0] 24)).cell? ⟨N, i, none⟩ = #[Value.int .i64 0, .int .i64 0, .int .u64 0, .int .u64 0][i]? := fun i => by rw [← eN]; simp
  have z : ∀ i, (w.alloc (.cells #[.int .i64 0, .int .i64 0, .int .u64 0, .int .u64 0] 24)).frozen? ⟨N, i, none⟩ = false := fun i => by rw [← eN]; simp
  have hl : N < (w.alloc (.cells #[.int .i64 0, .int .i64 0, .int .u64 0, .int .u64 0] 24)).heap.size := by rw [← eN]; simp
  obtain ⟨w1, e1⟩ : ∃ w1, w.alloc (.cells #[.int .i64 0, .int .i64 0, .int .u64 0, .int .u64 0] 24) = w1 := ⟨_, rfl⟩
  rw [e1] at k1 hT y z hl
  have c0 := hT.v
  obtain ⟨x, ok, ev⟩ : ∃ (x : Tx) (ok : Bool), lookV (lookL f n id) = .tuple #[txV x, .bool ok] := by
    cases lookL f n id with
    | none => exact ⟨_, _, rfl⟩
    | some x => exact ⟨_, _, rfl⟩
  have hL := look_any hT.o id i0 i1
  rw [ev] at hL ⊢
  clear ev h
  unfold txV at hL
  go_enter Try.func26, Try.ntmps26
  go_wp2_with fail
  refine hL.mono ?_
  rintro e w2 ⟨rfl, b2⟩
  have kc := fun i => b2.cell (p := ⟨N, i, none⟩) hl
  have kz := fun i => b2.frozen (p := ⟨N, i, none⟩) hl
  have y0 : w2.cell? ⟨N, 0, none⟩ = some (.int .i64 0) := (kc 0).trans (y 0)
  have y1 : w2.cell? ⟨N, 1, none⟩ = some (.int .i64 0) := (kc 1).trans (y 1)
  have y2 : w2.cell? ⟨N, 2, none⟩ = some (.int .u64 0) := (kc 2).trans (y 2)
  have y3 : w2.cell? ⟨N, 3, none⟩ = some (.int .u64 0) := (kc 3).trans (y 3)
  have z0 := (kz 0).trans (z 0)
  have z1 := (kz 1).trans (z 1)
  have z2 := (kz 2).trans (z 2)
  have z3 := (kz 3).trans (z 3)
  clear y z kc kz hL c0 hT e1
  have W4 := Lib.hid (four_set0 w2 N _ _ _ _ (.int .i64 x.lv) (.int .i64 x.st) (.int .u64 x.b) (.int .u64 x.e) y0 y1 y2 y3)
  go_wp2
  obtain ⟨W, eW, v0, v1, v2, v3, kW⟩ := W4.out
  rw [eW]
  have kk : Keep (fun _ => False) w W := by
    have := ((k1.trans (Keep.of_below b2 _)).mono (T := fun j => j = N) (by simp)).trans kW
    exact ⟨this.os, this.tape, this.output, this.size, fun j hj _ => this.block j hj (by omega)⟩
  exact bodyPost_ret (v := .tuple #[txV x, .bool ok]) (by simp [results, Try.results26, go_sem, txV, v0, v1, v2, v3]) rfl ⟨rfl, kk.below (Nat.le_refl _) (by simp)⟩
theorem looks_tells (g : Nat) (A : Option Addr) (n c : Nat) (f : Nat → Ot) : IsLook (.func (.func 26) #[] #[.pointer (some ⟨g, 0, none⟩)]) (Told g A n c f) (lookL f n) :=
  isLook_of (fun a w => by kernel_rfl) (fun id w i0 i1 h => clo_tells h id i0 i1) (fun h b => h.below b)
theorem clo_turned {g : Nat} {A : Option Addr} {n c : Nat} {f : Nat → Ot} {w : World} (h : Told g A n c f w) (id : Int) (i0 : -9223372036854775808 ≤ id) (i1 : id ≤ 9223372036854775807) : Calls Try.prog 19 #[.int .i64 id, .pointer (some ⟨g, 0, none⟩)] w fun e w' => e = .returned (lookV (lookL f n id)) ∧ Below w.heap.size w w' := by
  have k1 := Keep.alloc (Keep.refl (fun _ => False) w) (.cells #[.int .i64 0, .int .i64 0, .int .u64 0, .int .u64 0] 24)
  have hT := h.below (k1.below (Nat.le_refl _) (by simp))
  obtain ⟨N, eN⟩ : ∃ N, w.heap.size = N := ⟨_, rfl⟩
  have y : ∀ i, (w.alloc (.cells #[.int .i64 0, .int .i64 0, .int .u64 0, .int .u64 0] 24)).cell? ⟨N, i, none⟩ = #[Value.int .i64 0, .int .i64 0, .int .u64 0, .int .u64 0][i]? := fun i => by rw [← eN]; simp
  have z : ∀ i, (w.alloc (.cells #[.int .i64 0, .int .i64 0, .int .u64 0, .int .u64 0] 24)).frozen? ⟨N, i, none⟩ = false := fun i => by rw [← eN]; simp
  have hl : N < (w.alloc (.cells #[.int .i64 0, .int .i64 0, .int .u64 0, .int .u64 0] 24)).heap.size := by rw [← eN]; simp
  obtain ⟨w1, e1⟩ : ∃ w1, w.alloc (.cells #[.int .i64 0, .int .i64 0, .int .u64 0, .int .u64 0] 24) = w1 := ⟨_, rfl⟩
  rw [e1] at k1 hT y z hl
  have c0 := hT.v
  obtain ⟨x, ok, ev⟩ : ∃ (x : Tx) (ok : Bool), lookV (lookL f n id) = .tuple #[txV x, .bool ok] := by
    cases lookL f n id with
    | none => exact ⟨_, _, rfl⟩
    | some x => exact ⟨_, _, rfl⟩
  have hL := look_any hT.o id i0 i1
  rw [ev] at hL ⊢
  clear ev h
  unfold txV at hL
  go_enter Try.func19, Try.ntmps19
  go_wp2_with fail
  refine hL.mono ?_
  rintro e w2 ⟨rfl, b2⟩
  have kc := fun i => b2.cell (p := ⟨N, i, none⟩) hl
  have kz := fun i => b2.frozen (p := ⟨N, i, none⟩) hl
  have y0 : w2.cell? ⟨N, 0, none⟩ = some (.int .i64 0) := (kc 0).trans (y 0)
  have y1 : w2.cell? ⟨N, 1, none⟩ = some (.int .i64 0) := (kc 1).trans (y 1)
  have y2 : w2.cell? ⟨N, 2, none⟩ = some (.int .u64 0) := (kc 2).trans (y 2)
  have y3 : w2.cell? ⟨N, 3, none⟩ = some (.int .u64 0) := (kc 3).trans (y 3)
  have z0 := (kz 0).trans (z 0)
  have z1 := (kz 1).trans (z 1)
  have z2 := (kz 2).trans (z 2)
  have z3 := (kz 3).trans (z 3)
  clear y z kc kz hL c0 hT e1
  have W4 := Lib.hid (four_set0 w2 N _ _ _ _ (.int .i64 x.lv) (.int .i64 x.st) (.int .u64 x.b) (.int .u64 x.e) y0 y1 y2 y3)
  go_wp2
  obtain ⟨W, eW, v0, v1, v2, v3, kW⟩ := W4.out
  rw [eW]
  have kk : Keep (fun _ => False) w W := by
    have := ((k1.trans (Keep.of_below b2 _)).mono (T := fun j => j = N) (by simp)).trans kW
    exact ⟨this.os, this.tape, this.output, this.size, fun j hj _ => this.block j hj (by omega)⟩
  exact bodyPost_ret (v := .tuple #[txV x, .bool ok]) (by simp [results, Try.results19, go_sem, txV, v0, v1, v2, v3]) rfl ⟨rfl, kk.below (Nat.le_refl _) (by simp)⟩
theorem looks_turned (g : Nat) (A : Option Addr) (n c : Nat) (f : Nat → Ot) : IsLook (.func (.func 19) #[] #[.pointer (some ⟨g, 0, none⟩)]) (Told g A n c f) (lookL f n) :=
  isLook_of (fun a w => by kernel_rfl) (fun id w i0 i1 h => clo_turned h id i0 i1) (fun h b => h.below b)
theorem clo_maybe {g : Nat} {A : Option Addr} {n c : Nat} {f : Nat → Ot} {w : World} (h : Told g A n c f w) (id : Int) (i0 : -9223372036854775808 ≤ id) (i1 : id ≤ 9223372036854775807) : Calls Try.prog 30 #[.int .i64 id, .pointer (some ⟨g, 0, none⟩)] w fun e w' => e = .returned (lookV (lookL f n id)) ∧ Below w.heap.size w w' := by
  have k1 := Keep.alloc (Keep.refl (fun _ => False) w) (.cells #[.int .i64 0, .int .i64 0, .int .u64 0, .int .u64 0] 24)
  have hT := h.below (k1.below (Nat.le_refl _) (by simp))
  obtain ⟨N, eN⟩ : ∃ N, w.heap.size = N := ⟨_, rfl⟩
  have y : ∀ i, (w.alloc (.cells #[.int .i64 0, .int .i64 0, .int .u64 0, .int .u64 0] 24)).cell? ⟨N, i, none⟩ = #[Value.int .i64 0, .int .i64 0, .int .u64 0, .int .u64 0][i]? := fun i => by rw [← eN]; simp
  have z : ∀ i, (w.alloc (.cells #[.int .i64 0, .int .i64 0, .int .u64 0, .int .u64 0] 24)).frozen? ⟨N, i, none⟩ = false := fun i => by rw [← eN]; simp
  have hl : N < (w.alloc (.cells #[.int .i64 0, .int .i64 0, .int .u64 0, .int .u64 0] 24)).heap.size := by rw [← eN]; simp
  obtain ⟨w1, e1⟩ : ∃ w1, w.alloc (.cells #[.int .i64 0, .int .i64 0, .int .u64 0, .int .u64 0] 24) = w1 := ⟨_, rfl⟩
  rw [e1] at k1 hT y z hl
  have c0 := hT.v
  obtain ⟨x, ok, ev⟩ : ∃ (x : Tx) (ok : Bool), lookV (lookL f n id) = .tuple #[txV x, .bool ok] := by
    cases lookL f n id with
    | none => exact ⟨_, _, rfl⟩
    | some x => exact ⟨_, _, rfl⟩
  have hL := look_any hT.o id i0 i1
  rw [ev] at hL ⊢
  clear ev h
  unfold txV at hL
  go_enter Try.func30, Try.ntmps30
  go_wp2_with fail
  refine hL.mono ?_
  rintro e w2 ⟨rfl, b2⟩
  have kc := fun i => b2.cell (p := ⟨N, i, none⟩) hl
  have kz := fun i => b2.frozen (p := ⟨N, i, none⟩) hl
  have y0 : w2.cell? ⟨N, 0, none⟩ = some (.int .i64 0) := (kc 0).trans (y 0)
  have y1 : w2.cell? ⟨N, 1, none⟩ = some (.int .i64 0) := (kc 1).trans (y 1)
  have y2 : w2.cell? ⟨N, 2, none⟩ = some (.int .u64 0) := (kc 2).trans (y 2)
  have y3 : w2.cell? ⟨N, 3, none⟩ = some (.int .u64 0) := (kc 3).trans (y 3)
  have z0 := (kz 0).trans (z 0)
  have z1 := (kz 1).trans (z 1)
  have z2 := (kz 2).trans (z 2)
  have z3 := (kz 3).trans (z 3)
  clear y z kc kz hL c0 hT e1
  have W4 := Lib.hid (four_set0 w2 N _ _ _ _ (.int .i64 x.lv) (.int .i64 x.st) (.int .u64 x.b) (.int .u64 x.e) y0 y1 y2 y3)
  go_wp2
  obtain ⟨W, eW, v0, v1, v2, v3, kW⟩ := W4.out
  rw [eW]
  have kk : Keep (fun _ => False) w W := by
    have := ((k1.trans (Keep.of_below b2 _)).mono (T := fun j => j = N) (by simp)).trans kW
    exact ⟨this.os, this.tape, this.output, this.size, fun j hj _ => this.block j hj (by omega)⟩
  exact bodyPost_ret (v := .tuple #[txV x, .bool ok]) (by simp [results, Try.results30, go_sem, txV, v0, v1, v2, v3]) rfl ⟨rfl, kk.below (Nat.le_refl _) (by simp)⟩
theorem looks_maybe (g : Nat) (A : Option Addr) (n c : Nat) (f : Nat → Ot) : IsLook (.func (.func 30) #[] #[.pointer (some ⟨g, 0, none⟩)]) (Told g A n c f) (lookL f n) :=
  isLook_of (fun a w => by kernel_rfl) (fun id w i0 i1 h => clo_maybe h id i0 i1) (fun h b => h.below b)
theorem clo_maybe2 {g : Nat} {A : Option Addr} {n c : Nat} {f : Nat → Ot} {w : World} (h : Told g A n c f w) (id : Int) (i0 : -9223372036854775808 ≤ id) (i1 : id ≤ 9223372036854775807) : Calls Try.prog 31 #[.int .i64 id, .pointer (some ⟨g, 0, none⟩)] w fun e w' => e = .returned (lookV (lookL f n id)) ∧ Below w.heap.size w w' := by
  have k1 := Keep.alloc (Keep.refl (fun _ => False) w) (.cells #[.int .i64 0, .int .i64 0, .int .u64 0, .int .u64 0] 24)
  have hT := h.below (k1.below (Nat.le_refl _) (by simp))
  obtain ⟨N, eN⟩ : ∃ N, w.heap.size = N := ⟨_, rfl⟩
  have y : ∀ i, (w.alloc (.cells #[.int .i64 0, .int .i64 0, .int .u64 0, .int .u64 0] 24)).cell? ⟨N, i, none⟩ = #[Value.int .i64 0, .int .i64 0, .int .u64 0, .int .u64 0][i]? := fun i => by rw [← eN]; simp
  have z : ∀ i, (w.alloc (.cells #[.int .i64 0, .int .i64 0, .int .u64 0, .int .u64 0] 24)).frozen? ⟨N, i, none⟩ = false := fun i => by rw [← eN]; simp
  have hl : N < (w.alloc (.cells #[.int .i64 0, .int .i64 0, .int .u64 0, .int .u64 0] 24)).heap.size := by rw [← eN]; simp
  obtain ⟨w1, e1⟩ : ∃ w1, w.alloc (.cells #[.int .i64 0, .int .i64 0, .int .u64 0, .int .u64 0] 24) = w1 := ⟨_, rfl⟩
  rw [e1] at k1 hT y z hl
  have c0 := hT.v
  obtain ⟨x, ok, ev⟩ : ∃ (x : Tx) (ok : Bool), lookV (lookL f n id) = .tuple #[txV x, .bool ok] := by
    cases lookL f n id with
    | none => exact ⟨_, _, rfl⟩
    | some x => exact ⟨_, _, rfl⟩
  have hL := look_any hT.o id i0 i1
  rw [ev] at hL ⊢
  clear ev h
  unfold txV at hL
  go_enter Try.func31, Try.ntmps31
  go_wp2_with fail
  refine hL.mono ?_
  rintro e w2 ⟨rfl, b2⟩
  have kc := fun i => b2.cell (p := ⟨N, i, none⟩) hl
  have kz := fun i => b2.frozen (p := ⟨N, i, none⟩) hl
  have y0 : w2.cell? ⟨N, 0, none⟩ = some (.int .i64 0) := (kc 0).trans (y 0)
  have y1 : w2.cell? ⟨N, 1, none⟩ = some (.int .i64 0) := (kc 1).trans (y 1)
  have y2 : w2.cell? ⟨N, 2, none⟩ = some (.int .u64 0) := (kc 2).trans (y 2)
  have y3 : w2.cell? ⟨N, 3, none⟩ = some (.int .u64 0) := (kc 3).trans (y 3)
  have z0 := (kz 0).trans (z 0)
  have z1 := (kz 1).trans (z 1)
  have z2 := (kz 2).trans (z 2)
  have z3 := (kz 3).trans (z 3)
  clear y z kc kz hL c0 hT e1
  have W4 := Lib.hid (four_set0 w2 N _ _ _ _ (.int .i64 x.lv) (.int .i64 x.st) (.int .u64 x.b) (.int .u64 x.e) y0 y1 y2 y3)
  go_wp2
  obtain ⟨W, eW, v0, v1, v2, v3, kW⟩ := W4.out
  rw [eW]
  have kk : Keep (fun _ => False) w W := by
    have := ((k1.trans (Keep.of_below b2 _)).mono (T := fun j => j = N) (by simp)).trans kW
    exact ⟨this.os, this.tape, this.output, this.size, fun j hj _ => this.block j hj (by omega)⟩
  exact bodyPost_ret (v := .tuple #[txV x, .bool ok]) (by simp [results, Try.results31, go_sem, txV, v0, v1, v2, v3]) rfl ⟨rfl, kk.below (Nat.le_refl _) (by simp)⟩
theorem looks_maybe2 (g : Nat) (A : Option Addr) (n c : Nat) (f : Nat → Ot) : IsLook (.func (.func 31) #[] #[.pointer (some ⟨g, 0, none⟩)]) (Told g A n c f) (lookL f n) :=
  isLook_of (fun a w => by kernel_rfl) (fun id w i0 i1 h => clo_maybe2 h id i0 i1) (fun h b => h.below b)
theorem clo_maybe3 {g : Nat} {A : Option Addr} {n c : Nat} {f : Nat → Ot} {w : World} (h : Told g A n c f w) (id : Int) (i0 : -9223372036854775808 ≤ id) (i1 : id ≤ 9223372036854775807) : Calls Try.prog 32 #[.int .i64 id, .pointer (some ⟨g, 0, none⟩)] w fun e w' => e = .returned (lookV (lookL f n id)) ∧ Below w.heap.size w w' := by
  have k1 := Keep.alloc (Keep.refl (fun _ => False) w) (.cells #[.int .i64 0, .int .i64 0, .int .u64 0, .int .u64 0] 24)
  have hT := h.below (k1.below (Nat.le_refl _) (by simp))
  obtain ⟨N, eN⟩ : ∃ N, w.heap.size = N := ⟨_, rfl⟩
  have y : ∀ i, (w.alloc (.cells #[.int .i64 0, .int .i64 0, .int .u64 0, .int .u64 0] 24)).cell? ⟨N, i, none⟩ = #[Value.int .i64 0, .int .i64 0, .int .u64 0, .int .u64 0][i]? := fun i => by rw [← eN]; simp
  have z : ∀ i, (w.alloc (.cells #[.int .i64 0, .int .i64 0, .int .u64 0, .int .u64 0] 24)).frozen? ⟨N, i, none⟩ = false := fun i => by rw [← eN]; simp
  have hl : N < (w.alloc (.cells #[.int .i64 0, .int .i64 0, .int .u64 0, .int .u64 0] 24)).heap.size := by rw [← eN]; simp
  obtain ⟨w1, e1⟩ : ∃ w1, w.alloc (.cells #[.int .i64 0, .int .i64 0, .int .u64 0, .int .u64 0] 24) = w1 := ⟨_, rfl⟩
  rw [e1] at k1 hT y z hl
  have c0 := hT.v
  obtain ⟨x, ok, ev⟩ : ∃ (x : Tx) (ok : Bool), lookV (lookL f n id) = .tuple #[txV x, .bool ok] := by
    cases lookL f n id with
    | none => exact ⟨_, _, rfl⟩
    | some x => exact ⟨_, _, rfl⟩
  have hL := look_any hT.o id i0 i1
  rw [ev] at hL ⊢
  clear ev h
  unfold txV at hL
  go_enter Try.func32, Try.ntmps32
  go_wp2_with fail
  refine hL.mono ?_
  rintro e w2 ⟨rfl, b2⟩
  have kc := fun i => b2.cell (p := ⟨N, i, none⟩) hl
  have kz := fun i => b2.frozen (p := ⟨N, i, none⟩) hl
  have y0 : w2.cell? ⟨N, 0, none⟩ = some (.int .i64 0) := (kc 0).trans (y 0)
  have y1 : w2.cell? ⟨N, 1, none⟩ = some (.int .i64 0) := (kc 1).trans (y 1)
  have y2 : w2.cell? ⟨N, 2, none⟩ = some (.int .u64 0) := (kc 2).trans (y 2)
  have y3 : w2.cell? ⟨N, 3, none⟩ = some (.int .u64 0) := (kc 3).trans (y 3)
  have z0 := (kz 0).trans (z 0)
  have z1 := (kz 1).trans (z 1)
  have z2 := (kz 2).trans (z 2)
  have z3 := (kz 3).trans (z 3)
  clear y z kc kz hL c0 hT e1
  have W4 := Lib.hid (four_set0 w2 N _ _ _ _ (.int .i64 x.lv) (.int .i64 x.st) (.int .u64 x.b) (.int .u64 x.e) y0 y1 y2 y3)
  go_wp2
  obtain ⟨W, eW, v0, v1, v2, v3, kW⟩ := W4.out
  rw [eW]
  have kk : Keep (fun _ => False) w W := by
    have := ((k1.trans (Keep.of_below b2 _)).mono (T := fun j => j = N) (by simp)).trans kW
    exact ⟨this.os, this.tape, this.output, this.size, fun j hj _ => this.block j hj (by omega)⟩
  exact bodyPost_ret (v := .tuple #[txV x, .bool ok]) (by simp [results, Try.results32, go_sem, txV, v0, v1, v2, v3]) rfl ⟨rfl, kk.below (Nat.le_refl _) (by simp)⟩
theorem looks_maybe3 (g : Nat) (A : Option Addr) (n c : Nat) (f : Nat → Ot) : IsLook (.func (.func 32) #[] #[.pointer (some ⟨g, 0, none⟩)]) (Told g A n c f) (lookL f n) :=
  isLook_of (fun a w => by kernel_rfl) (fun id w i0 i1 h => clo_maybe3 h id i0 i1) (fun h b => h.below b)
theorem clo_maytells {g : Nat} {A : Option Addr} {n c : Nat} {f : Nat → Ot} {w : World} (h : Told g A n c f w) (id : Int) (i0 : -9223372036854775808 ≤ id) (i1 : id ≤ 9223372036854775807) : Calls Try.prog 38 #[.int .i64 id, .pointer (some ⟨g, 0, none⟩)] w fun e w' => e = .returned (lookV (lookL f n id)) ∧ Below w.heap.size w w' := by
  have k1 := Keep.alloc (Keep.refl (fun _ => False) w) (.cells #[.int .i64 0, .int .i64 0, .int .u64 0, .int .u64 0] 24)
  have hT := h.below (k1.below (Nat.le_refl _) (by simp))
  obtain ⟨N, eN⟩ : ∃ N, w.heap.size = N := ⟨_, rfl⟩
  have y : ∀ i, (w.alloc (.cells #[.int .i64 0, .int .i64 0, .int .u64 0, .int .u64 0] 24)).cell? ⟨N, i, none⟩ = #[Value.int .i64 0, .int .i64 0, .int .u64 0, .int .u64 0][i]? := fun i => by rw [← eN]; simp
  have z : ∀ i, (w.alloc (.cells #[.int .i64 0, .int .i64 0, .int .u64 0, .int .u64 0] 24)).frozen? ⟨N, i, none⟩ = false := fun i => by rw [← eN]; simp
  have hl : N < (w.alloc (.cells #[.int .i64 0, .int .i64 0, .int .u64 0, .int .u64 0] 24)).heap.size := by rw [← eN]; simp
  obtain ⟨w1, e1⟩ : ∃ w1, w.alloc (.cells #[.int .i64 0, .int .i64 0, .int .u64 0, .int .u64 0] 24) = w1 := ⟨_, rfl⟩
  rw [e1] at k1 hT y z hl
  have c0 := hT.v
  obtain ⟨x, ok, ev⟩ : ∃ (x : Tx) (ok : Bool), lookV (lookL f n id) = .tuple #[txV x, .bool ok] := by
    cases lookL f n id with
    | none => exact ⟨_, _, rfl⟩
    | some x => exact ⟨_, _, rfl⟩
  have hL := look_any hT.o id i0 i1
  rw [ev] at hL ⊢
  clear ev h
  unfold txV at hL
  go_enter Try.func38, Try.ntmps38
  go_wp2_with fail
  refine hL.mono ?_
  rintro e w2 ⟨rfl, b2⟩
  have kc := fun i => b2.cell (p := ⟨N, i, none⟩) hl
  have kz := fun i => b2.frozen (p := ⟨N, i, none⟩) hl
  have y0 : w2.cell? ⟨N, 0, none⟩ = some (.int .i64 0) := (kc 0).trans (y 0)
  have y1 : w2.cell? ⟨N, 1, none⟩ = some (.int .i64 0) := (kc 1).trans (y 1)
  have y2 : w2.cell? ⟨N, 2, none⟩ = some (.int .u64 0) := (kc 2).trans (y 2)
  have y3 : w2.cell? ⟨N, 3, none⟩ = some (.int .u64 0) := (kc 3).trans (y 3)
  have z0 := (kz 0).trans (z 0)
  have z1 := (kz 1).trans (z 1)
  have z2 := (kz 2).trans (z 2)
  have z3 := (kz 3).trans (z 3)
  clear y z kc kz hL c0 hT e1
  have W4 := Lib.hid (four_set0 w2 N _ _ _ _ (.int .i64 x.lv) (.int .i64 x.st) (.int .u64 x.b) (.int .u64 x.e) y0 y1 y2 y3)
  go_wp2
  obtain ⟨W, eW, v0, v1, v2, v3, kW⟩ := W4.out
  rw [eW]
  have kk : Keep (fun _ => False) w W := by
    have := ((k1.trans (Keep.of_below b2 _)).mono (T := fun j => j = N) (by simp)).trans kW
    exact ⟨this.os, this.tape, this.output, this.size, fun j hj _ => this.block j hj (by omega)⟩
  exact bodyPost_ret (v := .tuple #[txV x, .bool ok]) (by simp [results, Try.results38, go_sem, txV, v0, v1, v2, v3]) rfl ⟨rfl, kk.below (Nat.le_refl _) (by simp)⟩
theorem looks_maytells (g : Nat) (A : Option Addr) (n c : Nat) (f : Nat → Ot) : IsLook (.func (.func 38) #[] #[.pointer (some ⟨g, 0, none⟩)]) (Told g A n c f) (lookL f n) :=
  isLook_of (fun a w => by kernel_rfl) (fun id w i0 i1 h => clo_maytells h id i0 i1) (fun h b => h.below b)
section
variable {w : World} {A : Option Addr} {n c : Nat} {f : Nat → Ot}
theorem rbegin_to (h : IsOth w A n c f) (a me t p q : Int) (hr : beginI (lookL f n) a me t = (p, q)) (a0 : 0 ≤ a) (a1 : a ≤ 18446744073709551615) :
    Calls Try.prog 27 #[.int .u64 a, .int .i64 me, .int .u64 t, .slice A n c] w fun e w' => e = .returned (.tuple #[.int .i64 p, .int .i64 q]) ∧ Below w.heap.size w w' := by
  have := rbegin_any h a me t a0 a1
  rw [hr] at this
  exact this
theorem rend_to (h : IsOth w A n c f) (a me t p q : Int) (hr : endI (lookL f n) a me t = (p, q)) (a0 : 0 ≤ a) (a1 : a ≤ 18446744073709551615) :
    Calls Try.prog 28 #[.int .u64 a, .int .i64 me, .int .u64 t, .slice A n c] w fun e w' => e = .returned (.tuple #[.int .i64 p, .int .i64 q]) ∧ Below w.heap.size w w' := by
  have := rend_any h a me t a0 a1
  rw [hr] at this
  exact this
theorem rsee_to (h : IsOth w A n c f) (a b me t v : Int) (zs : List Int) (hr : seeI (lookL f n) a b me t = (v, zs)) (a0 : 0 ≤ a) (a1 : a ≤ 18446744073709551615) (b0 : 0 ≤ b) (b1 : b ≤ 18446744073709551615) :
    Calls Try.prog 29 #[.int .u64 a, .int .u64 b, .int .i64 me, .int .u64 t, .slice A n c] w fun e w' => ∃ A c, e = .returned (.tuple #[.int .i64 v, .slice A zs.length c]) ∧ OwnN w.heap.size w' (.slice A zs.length c) zs ∧ Below w.heap.size w w' := by
  refine (rsee_any h a b me t a0 a1 b0 b1).mono ?_
  rw [hr]
  rintro e w' ⟨x, rfl, o, bl⟩
  obtain ⟨A, c, rfl, _⟩ := o.out
  exact ⟨A, c, rfl, o, bl⟩
end
end Go.Proofs.Ytdkgngdfehllcaa
