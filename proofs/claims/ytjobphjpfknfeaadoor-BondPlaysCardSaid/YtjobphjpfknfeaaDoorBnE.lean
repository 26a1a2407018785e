/- Package bond: Bind, Good, Bad, Waits, Open, New over the row of parties; conditions: what the Bonds are, ids of 64 bits, the table of math/bits. -/
import Derived.Test.YtjobphjpfknfeaaDoorBnB
import Derived.LaidEqlPtr
namespace Go.Proofs.YtjobphjpfknfeaaDoor
open Go.ChangeShapes Go.WideShapes Go.ChangeAt Go.RowKit
set_option linter.unusedVariables false
open Classical

section
variable {w w' w2 : World} {p m i j k : Nat} {v u : Value} {bs L : List Nat} {xs ys : List Pty} {id tt r : Int}
def NoId (xs : List Pty) (id : Int) : Prop := ∀ i, i < xs.length → (pty xs i).id ≠ id
theorem BdC.drewN (h : BdC w p m v bs xs) (d : Nat) : BdC (w.drewN d) p m v bs xs := h.keep (drewN_keep (fun _ => False) w d) (fun _ _ q => q)
theorem BdC.one (h : BdC w p m v bs xs) (hi : i < xs.length) (hj : j < xs.length) (e : (pty xs i).id = (pty xs j).id) : i = j := by
  rcases Nat.lt_trichotomy i j with q | q | q
  · exact absurd e (h.nd i j q hj)
  · exact q
  · exact absurd e.symm (h.nd j i q hi)
theorem BdC.found (h : BdC w p m v bs xs) (hid : I64 id) (hi : i < xs.length) (e : (pty xs i).id = id) : ∀ d, (Instr.lookup 52 (.map (some m)) (.int .i64 id) false).run Tryd.prog (w.drewN d) = .ok (.pointer (some ⟨bs.getD i 0, 0, none⟩)) (w.drewN d) := fun d => by
  rcases (h.drewN d).look hid with ⟨j, hj, ej, hrun⟩ | ⟨hn, _⟩
  · obtain rfl := h.one hi hj (e.trans ej.symm)
    exact hrun
  · exact absurd e (hn i hi)
theorem BdC.none (h : BdC w p m v bs xs) (hid : I64 id) (hn : NoId xs id) : ∀ d, (Instr.lookup 52 (.map (some m)) (.int .i64 id) false).run Tryd.prog (w.drewN d) = .ok (.pointer .none) (w.drewN d) := fun d => by
  rcases (h.drewN d).look hid with ⟨j, hj, ej, hrun⟩ | ⟨_, hrun⟩
  · exact absurd ej (hn j hj)
  · exact hrun
theorem cells_of {b j : Nat} {x : Value} (h : w.cell? ⟨b, j, .none⟩ = some x) : ∃ c t fr, w.heap[b]? = some (.cells c t fr) := by
  unfold World.cell? at h
  split at h
  · rename_i c t fr e
    exact ⟨c, t, fr, e⟩
  · cases h
theorem two_ptrs {a b j1 j2 : Nat} {x y : Value} (hne : a ≠ b) (ha : w.cell? ⟨a, j1, .none⟩ = some x) (hb : w.cell? ⟨b, j2, .none⟩ = some y) (fa : ∀ i, w.frozen? ⟨a, i, .none⟩ = false) (fb : ∀ i, w.frozen? ⟨b, i, .none⟩ = false) :
    (sameAddr ⟨a, 0, .none⟩ ⟨b, 0, .none⟩).run Tryd.prog w = .ok false w := by
  obtain ⟨ca, ta, ⟨la, ua⟩, ea⟩ := cells_of ha
  obtain ⟨cb, tb, ⟨lb, ub⟩, eb⟩ := cells_of hb
  have fa1 : ∀ i : Nat, (decide (la ≤ i) && decide (i < ua)) = false := fun i => by have := fa i; simpa [World.frozen?, ea] using this
  have fb1 : ∀ i : Nat, (decide (lb ≤ i) && decide (i < ub)) = false := fun i => by have := fb i; simpa [World.frozen?, eb] using this
  have a0 := fa1 0
  have b0 := fb1 0
  have a1 := fa1 ca.size
  have b1 := fb1 cb.size
  simp only [Bool.and_eq_false_iff, decide_eq_false_iff_not] at a0 b0 a1 b1
  have a2 : ¬ (la = 0 ∧ 0 < ua) := by omega
  have b2 : ¬ (lb = 0 ∧ 0 < ub) := by omega
  have a3 : ¬ (la ≤ ca.size ∧ ca.size < ua) := by omega
  have b3 : ¬ (lb ≤ cb.size ∧ cb.size < ub) := by omega
  simp [sameAddr, hne, World.frozen?, ea, eb, noView, viewAt, World.shape?, mayBeOne, stringish, a2, b2, a3, b3]
theorem eql_ptrs {a b : Nat} (h : (sameAddr ⟨a, 0, .none⟩ ⟨b, 0, .none⟩).run Tryd.prog w = .ok false w) : (binOp .eql 56 (.pointer (some ⟨a, 0, .none⟩)) (.pointer (some ⟨b, 0, .none⟩))).run Tryd.prog w = .ok (.bool false) w := by
  have hsz : (Tryd.prog.info? 73).map (·.size) = some 102 := by kernel_rfl
  have h2 : ∀ d : Nat, (Op.equalIn (d + 1) 56 (.pointer (some ⟨a, 0, .none⟩)) (.pointer (some ⟨b, 0, .none⟩))).run Tryd.prog w = .ok false w := fun d => by
    cases hi : Tryd.prog.info? 73 with
    | none => simp [hi] at hsz
    | some i =>
      have hs : i.size = 102 := by simpa [hi] using hsz
      simp [Op.equalIn, run_underlying Tryd.underlying56, sizeOf, typeInfo, hi, hs, h]
  simp only [binOp]
  simp [Op.equal, Op.maxDepth, h2 9999]
theorem eql_self {a : Nat} : (binOp .eql 56 (.pointer (some ⟨a, 0, .none⟩)) (.pointer (some ⟨a, 0, .none⟩))).run Tryd.prog w = .ok (.bool true) w := by
  obtain ⟨i, hi⟩ := info_of_underlying (P := Tryd.prog) Tryd.underlying73
  exact run_eql_ptr_same w _ Tryd.underlying56 hi
set_option maxRecDepth 100000 in
theorem Bind_no (h : BdC w p m v bs xs) (hid : I64 id) (hto : I64 tt) (hn : NoId xs id ∨ NoId xs tt) :
    Calls Tryd.prog 12 #[.pointer (some ⟨p, 0, none⟩), .int .i64 id, .int .i64 tt] w fun e w' => e = .returned (.int .i64 11) ∧ Keep (fun _ => False) w w' := by
  have cm := h.cm
  rcases h.look hid with ⟨i, hi, ei, _⟩ | ⟨n1, _⟩
  · have r1 := h.found hid hi ei
    rcases hn with hn | hn
    · exact absurd ei (hn i hi)
    have r2 := h.none hto hn
    have a1 := r1 0
    have a2 := r2 0
    change (Instr.lookup _ _ _ _).run _ w = .ok _ w at a1 a2
    clear h hid hto hi ei hn
    go_enter Tryd.func12, Tryd.ntmps12
    go_wp2_with fail
    go_quiet (fail)
    have KD := Lib.hid (drewN_keep (fun _ => False) w nq)
    clear r1 r2 a1 a2
    go_wp2
    go_ret
    exact ⟨rfl, KD.out⟩
  · have r1 := h.none hid n1
    have a1 := r1 0
    change (Instr.lookup _ _ _ _).run _ w = .ok _ w at a1
    rcases h.look hto with ⟨j, hj, ej, _⟩ | ⟨n2, _⟩
    · have r2 := h.found hto hj ej
      have a2 := r2 0
      change (Instr.lookup _ _ _ _).run _ w = .ok _ w at a2
      clear h hid hto n1 hn ej hj
      go_enter Tryd.func12, Tryd.ntmps12
      go_wp2_with fail
      go_quiet (fail)
      have KD := Lib.hid (drewN_keep (fun _ => False) w nq)
      clear r1 r2 a1 a2
      go_wp2
      go_ret
      exact ⟨rfl, KD.out⟩
    · have r2 := h.none hto n2
      have a2 := r2 0
      change (Instr.lookup _ _ _ _).run _ w = .ok _ w at a2
      clear h hid hto n1 hn n2
      go_enter Tryd.func12, Tryd.ntmps12
      go_wp2_with fail
      go_quiet (fail)
      have KD := Lib.hid (drewN_keep (fun _ => False) w nq)
      clear r1 r2 a1 a2
      go_wp2
      go_ret
      exact ⟨rfl, KD.out⟩
set_option maxRecDepth 100000 in
theorem Bind_self (h : BdC w p m v bs xs) (hid : I64 id) (hi : i < xs.length) (ei : (pty xs i).id = id) :
    Calls Tryd.prog 12 #[.pointer (some ⟨p, 0, none⟩), .int .i64 id, .int .i64 id] w fun e w' => e = .returned (.int .i64 1) ∧ Keep (fun _ => False) w w' := by
  have cm := h.cm
  have r1 := h.found hid hi ei
  have a1 := r1 0
  change (Instr.lookup _ _ _ _).run _ w = .ok _ w at a1
  obtain ⟨bx, ebx⟩ : ∃ b, bs.getD i 0 = b := ⟨_, rfl⟩
  rw [ebx] at r1 a1
  clear h hid hi ei ebx
  go_enter Tryd.func12, Tryd.ntmps12
  go_wp2_with fail
  go_quiet (fail)
  have KD := Lib.hid (drewN_keep (fun _ => False) w nq)
  have pe := eql_self (w := w.drewN nq) (a := bx)
  clear r1 a1
  go_wp2
  go_ret
  exact ⟨rfl, KD.out⟩
set_option maxRecDepth 100000 in
theorem Bind_go (h : BdC w p m v bs xs) (hid : I64 id) (htt : I64 tt) (hi : i < xs.length) (ei : (pty xs i).id = id) (hj : j < xs.length) (ej : (pty xs j).id = tt) (hne : i ≠ j) (hI : InX xs) (hT : TabW w) (ht : 0 < w.heap.size) (hG : ¬ PFt bs xs.length 0)
    (hr : (if (pty xs i).st = 3 ∨ (pty xs i).st = 4 then (7, xs) else bindX xs i j) = (r, ys)) :
    Calls Tryd.prog 12 #[.pointer (some ⟨p, 0, none⟩), .int .i64 id, .int .i64 tt] w fun e w' => e = .returned (.int .i64 r) ∧ BdC w' p m v bs ys ∧ Keep (PFt bs xs.length) w w' := by
  have cm := h.cm
  have r1 := h.found hid hi ei
  have r2 := h.found htt hj ej
  have a1 := r1 0
  have a2 := r2 0
  change (Instr.lookup _ _ _ _).run _ w = .ok _ w at a1 a2
  have bne : bs.getD i 0 ≠ bs.getD j 0 := fun e => hne (h.apart hi hj e)
  have H := Lib.hid h
  clear h hid htt ei ej
  obtain ⟨bx, ebx⟩ : ∃ b, bs.getD i 0 = b := ⟨_, rfl⟩
  obtain ⟨byy, eby⟩ : ∃ b, bs.getD j 0 = b := ⟨_, rfl⟩
  rw [ebx] at r1 a1 bne
  rw [eby] at r2 a2 bne
  go_enter Tryd.func12, Tryd.ntmps12
  go_wp2_with fail
  go_quiet (fail)
  have kd := drewN_keep (fun _ => False) w nq
  have hd := H.out.drewN nq
  obtain ⟨we, ee⟩ : ∃ we, w.drewN nq = we := ⟨_, rfl⟩
  rw [ee] at kd hd ⊢
  have pe := eql_ptrs (w := we) (two_ptrs bne (by rw [← ebx]; exact (hd.en i hi).c0) (by rw [← eby]; exact (hd.en j hj).c0) (fun q => by rw [← ebx]; exact (hd.en i hi).fz q) (fun q => by rw [← eby]; exact (hd.en j hj).fz q))
  have nd := ended_any (hd.en i hi)
  have te := hT.keep kd (fun c => c)
  have tle : 0 < we.heap.size := Nat.lt_of_lt_of_le ht kd.size
  rw [ebx] at nd
  obtain ⟨b7, hb7⟩ := a_bool ((pty xs i).st = 3 ∨ (pty xs i).st = 4)
  have e7 : decide ((pty xs i).st = 3 ∨ (pty xs i).st = 4) = b7 := by rw [Bool.eq_iff_iff, decide_eq_true_iff, hb7]
  rw [e7] at nd
  clear r1 r2 a1 a2 ee e7
  have HB := Lib.hid hb7
  have HR := Lib.hid hr
  clear hb7 hr
  go_wp2_with fail
  refine nd.mono ?_
  rintro e wX ⟨rfl, rfl⟩
  clear nd
  cases b7
  · have HR2 := HR.out
    rw [if_neg (fun c => by have := HB.out.2 c; cases this)] at HR2
    have bd := bind_any hd hi hj hne hI te tle hG r ys HR2
    rw [ebx, eby] at bd
    have KD := Lib.hid (kd.mono (T := PFt bs xs.length) fun _ e => e.elim)
    clear HR HR2 hd kd te HB
    go_wp2_with fail
    refine bd.mono ?_
    rintro e wE ⟨rfl, hE, kE⟩
    have HE := Lib.hid hE
    have KE := Lib.hid (KD.out.trans kE)
    clear bd hE kE
    go_wp2
    go_ret
    exact ⟨rfl, HE.out, KE.out⟩
  · have HR2 := HR.out
    rw [if_pos (HB.out.1 rfl)] at HR2
    obtain ⟨rfl, rfl⟩ : 7 = r ∧ xs = ys := by simpa using HR2
    have HC := Lib.hid hd
    have KD := Lib.hid (kd.mono (T := PFt bs xs.length) fun _ e => e.elim)
    clear HR HR2 hd kd te HB
    go_wp2
    go_ret
    exact ⟨rfl, HC.out, KD.out⟩
set_option maxRecDepth 100000 in
theorem Good_no (h : BdC w p m v bs xs) (hid : I64 id) (hn : NoId xs id) : Calls Tryd.prog 14 #[.pointer (some ⟨p, 0, none⟩), .int .i64 id] w fun e w' => e = .returned (.tuple #[.slice none 0 0, .int .i64 11]) ∧ w = w' := by
  have cm := h.cm
  have a1 := h.none hid hn 0
  change (Instr.lookup _ _ _ _).run _ w = .ok _ w at a1
  clear h hid hn
  go_enter Tryd.func14, Tryd.ntmps14
  go_wp2
  go_ret2
  exact ⟨rfl, rfl⟩
set_option maxRecDepth 100000 in
theorem Bad_no (h : BdC w p m v bs xs) (hid : I64 id) (hn : NoId xs id) : Calls Tryd.prog 17 #[.pointer (some ⟨p, 0, none⟩), .int .i64 id] w fun e w' => e = .returned (.tuple #[.slice none 0 0, .int .i64 11]) ∧ w = w' := by
  have cm := h.cm
  have a1 := h.none hid hn 0
  change (Instr.lookup _ _ _ _).run _ w = .ok _ w at a1
  clear h hid hn
  go_enter Tryd.func17, Tryd.ntmps17
  go_wp2
  go_ret2
  exact ⟨rfl, rfl⟩
theorem Waits_no (h : BdC w p m v bs xs) (hid : I64 id) (hn : NoId xs id) : Calls Tryd.prog 13 #[.pointer (some ⟨p, 0, none⟩), .int .i64 id] w fun e w' => e = .returned (.int .i64 0) ∧ w = w' := by
  have fo := for_no h hid hn
  go_enter Tryd.func13, Tryd.ntmps13
  go_wp2_with fail
  refine fo.mono ?_
  rintro e w1 ⟨rfl, rfl⟩
  go_wp2
  go_ret
  exact ⟨rfl, rfl⟩
theorem Waits_at (h : BdC w p m v bs xs) (i : Nat) (hi : i < xs.length) (hid : I64 id) (e : (pty xs i).id = id) (hS : ∀ q, q < 2048 → (pty xs i).bo q → q < xs.length) (hT : TabW w) :
    Calls Tryd.prog 13 #[.pointer (some ⟨p, 0, none⟩), .int .i64 id] w fun r w' => r = .returned (.int .i64 (plc (pty xs i).bo 2048).length) ∧ Below w.heap.size w w' := by
  have fo := for_at h i hi hid e hS hT
  clear h hi hid e hS hT
  go_enter Tryd.func13, Tryd.ntmps13
  go_wp2_with fail
  refine fo.mono ?_
  rintro e w1 ⟨u, rfl, ou, bu⟩
  obtain ⟨A, c, rfl, _, _⟩ := OwnN.shapeN ou
  have ln : (srt (idsL xs (plc (pty xs i).bo 2048))).length = (plc (pty xs i).bo 2048).length := by rw [srt_len]; unfold idsL; rw [List.length_map]
  rw [ln]
  clear ln ou fo
  have BU := Lib.hid bu
  clear bu
  go_wp2
  go_ret
  exact ⟨rfl, BU.out⟩
set_option maxRecDepth 100000 in
theorem Good_late (h : BdC w p m v bs xs) (hid : I64 id) (hi : i < xs.length) (ei : (pty xs i).id = id) (hs : (pty xs i).st ≠ 1) : Calls Tryd.prog 14 #[.pointer (some ⟨p, 0, .none⟩), .int .i64 id] w fun e w' => e = .returned (.tuple #[.slice .none 0 0, .int .i64 7]) ∧ w = w' := by
  have cm := h.cm
  have a1 := h.found hid hi ei 0
  change (Instr.lookup _ _ _ _).run _ w = .ok _ w at a1
  have c2 := (h.en i hi).c2
  obtain ⟨bx, ebx⟩ : ∃ b, bs.getD i 0 = b := ⟨_, rfl⟩
  obtain ⟨s, es⟩ : ∃ s, (pty xs i).st = s := ⟨_, rfl⟩
  rw [ebx] at a1 c2
  rw [es] at c2 hs
  have q1 : (s == 1) = false := by simpa using hs
  have q2 : (s != 1) = true := by simpa using hs
  clear h hid hi ei ebx es hs
  go_enter Tryd.func14, Tryd.ntmps14
  go_wp2
  go_ret2
  exact ⟨rfl, rfl⟩
set_option maxRecDepth 100000 in
theorem Good_wait (h : BdC w p m v bs xs) (hid : I64 id) (hi : i < xs.length) (ei : (pty xs i).id = id) (hs : (pty xs i).st = 1) (hw : ¬ ∀ z, z < 2048 → ¬ (pty xs i).bo z) : Calls Tryd.prog 14 #[.pointer (some ⟨p, 0, .none⟩), .int .i64 id] w fun e w' => e = .returned (.tuple #[.slice .none 0 0, .int .i64 18]) ∧ w = w' := by
  have cm := h.cm
  have a1 := h.found hid hi ei 0
  change (Instr.lookup _ _ _ _).run _ w = .ok _ w at a1
  have c2 := (h.en i hi).c2
  have em := empty_any (h.en i hi).s1 false ⟨fun q => (by cases q), fun q => absurd q hw⟩
  obtain ⟨bx, ebx⟩ : ∃ b, bs.getD i 0 = b := ⟨_, rfl⟩
  rw [ebx] at a1 c2 em
  rw [hs] at c2
  clear h hid hi ei ebx hs hw
  go_enter Tryd.func14, Tryd.ntmps14
  go_wp2_with fail
  refine em.mono ?_
  rintro e wX ⟨rfl, rfl⟩
  clear em
  go_wp2
  go_ret2
  exact ⟨rfl, rfl⟩
set_option maxRecDepth 100000 in
theorem Good_at (h : BdC w p m v bs xs) (hid : I64 id) (hi : i < xs.length) (ei : (pty xs i).id = id) (hs : (pty xs i).st = 1) (hw : ∀ z, z < 2048 → ¬ (pty xs i).bo z) (hI : InX xs) (hkk : ¬ (pty xs i).ab i) (hT : TabW w) (hG : ¬ PFt bs xs.length 0) :
    Calls Tryd.prog 14 #[.pointer (some ⟨p, 0, .none⟩), .int .i64 id] w fun e w' => ∃ u, e = .returned (.tuple #[u, .int .i64 0]) ∧ OwnN w.heap.size w' u (srt (gatP (freeP i) (xs.set i { pty xs i with st := 3 }) (plc (pty xs i).ab 2048))) ∧ BdC w' p m v bs (updL (relP i) (xs.set i { pty xs i with st := 3 }) (plc (pty xs i).ab 2048)) ∧ Keep (PFt bs xs.length) w w' := by
  have cm := h.cm
  have a1 := h.found hid hi ei 0
  change (Instr.lookup _ _ _ _).run _ w = .ok _ w at a1
  have hX := h.en i hi
  have c2 := hX.c2
  have em := empty_any hX.s1 true ⟨fun _ => hw, fun _ => rfl⟩
  have fi := finish_first (s := 3) hX (by rw [hs]; decide) (by decide)
  have H := Lib.hid h
  obtain ⟨bx, ebx⟩ : ∃ b, bs.getD i 0 = b := ⟨_, rfl⟩
  have EBX := Lib.hid ebx
  rw [ebx] at a1 c2 em fi
  rw [hs] at c2
  clear h hid ei ebx hw hX
  go_enter Tryd.func14, Tryd.ntmps14
  go_wp2_with fail
  refine em.mono ?_
  rintro e wX ⟨rfl, rfl⟩
  clear em
  go_wp2_with fail
  refine fi.mono ?_
  rintro e w1 ⟨rfl, hp, k1⟩
  have lx : (xs.set i { pty xs i with st := 3 }).length = xs.length := List.length_set
  have h1 : BdC w1 p m v bs (xs.set i { pty xs i with st := 3 }) := H.out.put i hi (by rw [EBX.out]; exact k1) (by rw [EBX.out]; exact hp) rfl
  have t1 := hT.keep k1 (fun c => hG ⟨i, hi, by rw [EBX.out]; exact c.symm⟩)
  have g1 : (pty (xs.set i { pty xs i with st := 3 }) i).ab = (pty xs i).ab := by rw [pty_set i i hi, if_pos rfl]
  have kx : Keep (PFt bs xs.length) w w1 := k1.mono fun g e => ⟨i, hi, by rw [EBX.out, e]⟩
  have re := release_any h1 i (by rw [lx]; exact hi) (by rw [g1, lx]; exact fun q hq => (hI i hi q hq).2.2) t1 (by rw [g1]; exact hkk) (by rw [g1])
  rw [EBX.out, lx] at re
  have KX := Lib.hid kx
  clear fi hp h1 t1 kx k1 lx cm a1 c2
  go_wp2_with fail
  refine re.mono ?_
  rintro e w2 ⟨u, rfl, ou, h2, k2⟩
  have OU := Lib.hid (OwnN.lowerN ou KX.out.size)
  have H2 := Lib.hid h2
  have K2 := Lib.hid (KX.out.trans k2)
  clear re ou h2 k2 g1
  go_wp2
  go_ret2
  exact ⟨_, rfl, OU.out, H2.out, K2.out⟩
set_option maxRecDepth 100000 in
theorem Bad_late (h : BdC w p m v bs xs) (hid : I64 id) (hi : i < xs.length) (ei : (pty xs i).id = id) (hs : ¬ (pty xs i).st ≤ 2) : Calls Tryd.prog 17 #[.pointer (some ⟨p, 0, .none⟩), .int .i64 id] w fun e w' => e = .returned (.tuple #[.slice .none 0 0, .int .i64 7]) ∧ Keep (fun _ => False) w w' := by
  have cm := h.cm
  have a1 := h.found hid hi ei 0
  change (Instr.lookup _ _ _ _).run _ w = .ok _ w at a1
  have fi := finish_done (s := 4) (h.en i hi) hs
  obtain ⟨bx, ebx⟩ : ∃ b, bs.getD i 0 = b := ⟨_, rfl⟩
  rw [ebx] at a1 fi
  clear h hid hi ei ebx hs
  go_enter Tryd.func17, Tryd.ntmps17
  go_wp2_with fail
  refine fi.mono ?_
  rintro e w1 ⟨rfl, k1⟩
  have K1 := Lib.hid k1
  clear fi k1
  go_wp2
  go_ret2
  exact ⟨rfl, K1.out⟩
set_option maxRecDepth 100000 in
theorem Bad_at (h : BdC w p m v bs xs) (hid : I64 id) (hi : i < xs.length) (ei : (pty xs i).id = id) (hs : (pty xs i).st ≤ 2) (hI : InX xs) (hT : TabW w) (ht : 0 < w.heap.size) (hG : ¬ PFt bs xs.length 0) :
    Calls Tryd.prog 17 #[.pointer (some ⟨p, 0, .none⟩), .int .i64 id] w fun e w' => ∃ u, e = .returned (.tuple #[u, .int .i64 0]) ∧ OwnN w.heap.size w' u (srt (gath (xs.set i { pty xs i with st := 4 }) (plc (fun q => (pty xs i).ab q ∨ q = i) 2048))) ∧ BdC w' p m v bs (doomL (xs.set i { pty xs i with st := 4 }) (plc (fun q => (pty xs i).ab q ∨ q = i) 2048)) ∧ Keep (PFt bs xs.length) w w' := by
  have cm := h.cm
  have a1 := h.found hid hi ei 0
  change (Instr.lookup _ _ _ _).run _ w = .ok _ w at a1
  have hX := h.en i hi
  have fi := finish_first (s := 4) hX hs (by decide)
  have H := Lib.hid h
  obtain ⟨bx, ebx⟩ : ∃ b, bs.getD i 0 = b := ⟨_, rfl⟩
  have EBX := Lib.hid ebx
  rw [ebx] at a1 fi
  clear h hid ei ebx hX
  go_enter Tryd.func17, Tryd.ntmps17
  go_wp2_with fail
  refine fi.mono ?_
  rintro e w1 ⟨rfl, hp, k1⟩
  have lx : (xs.set i { pty xs i with st := 4 }).length = xs.length := List.length_set
  have h1 : BdC w1 p m v bs (xs.set i { pty xs i with st := 4 }) := H.out.put i hi (by rw [EBX.out]; exact k1) (by rw [EBX.out]; exact hp) rfl
  have t1 := hT.keep k1 (fun c => hG ⟨i, hi, by rw [EBX.out]; exact c.symm⟩)
  have g1 : (pty (xs.set i { pty xs i with st := 4 }) i).ab = (pty xs i).ab := by rw [pty_set i i hi, if_pos rfl]
  have kx : Keep (PFt bs xs.length) w w1 := k1.mono fun g e => ⟨i, hi, by rw [EBX.out, e]⟩
  have re := doom_any h1 i (by rw [lx]; exact hi) (by rw [g1, lx]; exact fun q hq => (hI i hi q hq).2.2) t1 (Nat.lt_of_lt_of_le ht k1.size) rfl
  rw [EBX.out, lx, g1] at re
  have KX := Lib.hid kx
  clear fi hp h1 t1 kx k1 lx cm a1
  go_wp2_with fail
  refine re.mono ?_
  rintro e w2 ⟨u, rfl, ou, h2, k2⟩
  have OU := Lib.hid (OwnN.lowerN ou KX.out.size)
  have H2 := Lib.hid h2
  have K2 := Lib.hid (KX.out.trans k2)
  clear re ou h2 k2 g1
  go_wp2
  go_ret2
  exact ⟨_, rfl, OU.out, H2.out, K2.out⟩
end
end Go.Proofs.YtjobphjpfknfeaaDoor
