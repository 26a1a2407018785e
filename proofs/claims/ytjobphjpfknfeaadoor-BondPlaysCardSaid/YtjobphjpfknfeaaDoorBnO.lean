/- Package bond: Open and New; conditions: what the Bonds are, ids of 64 bits. -/
import Derived.Test.YtjobphjpfknfeaaDoorBnE
import Derived.Laws.Tables
namespace Go.Proofs.YtjobphjpfknfeaaDoor
open Go.ChangeShapes Go.WideShapes Go.ChangeAt Go.RowKit
set_option linter.unusedVariables false
open Classical

/-- The cells of a new party. -/
noncomputable def ptyZ (id : Int) (n : Nat) : Array Value := ((Tryd.zeroCells73.setIfInBounds 0 (.int .i64 id)).setIfInBounds 1 (.int .i64 n)).setIfInBounds 2 (.int .i64 1)
def isU0 (v : Option Value) : Bool := match v with | some (.int .u64 0) => true | _ => false
theorem isU0_eq {v : Option Value} (h : isU0 v = true) : v = some (.int .u64 0) := by
  unfold isU0 at h
  split at h
  · rfl
  · cases h
theorem ptyZ_0 (id : Int) (n : Nat) : (ptyZ id n)[0]? = some (.int .i64 id) := by kernel_rfl
theorem ptyZ_1 (id : Int) (n : Nat) : (ptyZ id n)[1]? = some (.int .i64 n) := by kernel_rfl
theorem ptyZ_2 (id : Int) (n : Nat) : (ptyZ id n)[2]? = some (.int .i64 1) := by kernel_rfl
theorem ptyZ_3 (id : Int) (n : Nat) : (ptyZ id n)[3]? = some (.int .u32 0) := by kernel_rfl
theorem ptyZ_4 (id : Int) (n : Nat) : (ptyZ id n)[4]? = some (.int .i32 0) := by kernel_rfl
theorem ptyZ_u (id : Int) (n : Nat) : (List.range 96).all (fun k => isU0 (ptyZ id n)[6 + k]?) = true := by kernel_rfl
/-- A new party. -/
def newP (id : Int) : Pty := ⟨id, 1, fun _ => False, fun _ => False, fun _ => False⟩
section
variable {w w' w2 y3 : World} {p m i j k b g c : Nat} {v u : Value} {bs L : List Nat} {xs ys : List Pty} {id tt r : Int}
theorem wd_none (i : Nat) : wd (fun _ => False) i = 0 := wd_zero.2 fun _ _ h => h
theorem new_pty (w : World) (id : Int) (n : Nat) : PtyAt (w.alloc (.cells (ptyZ id n) 73)) w.heap.size n (newP id) := by
  have hc : ∀ i, (w.alloc (.cells (ptyZ id n) 73)).cell? ⟨w.heap.size, i, .none⟩ = (ptyZ id n)[i]? := fun i => by simp
  have hf : ∀ i, (w.alloc (.cells (ptyZ id n) 73)).frozen? ⟨w.heap.size, i, .none⟩ = false := fun i => by simp
  have hu : ∀ o, 6 ≤ o → o ≤ 70 → SetAt (w.alloc (.cells (ptyZ id n) 73)) w.heap.size o (fun _ => False) := fun o h1 h2 => ⟨fun i hi => by
    rw [hc, wd_none]
    have := List.all_eq_true.1 (ptyZ_u id n) (o + i - 6) (List.mem_range.2 (by omega))
    rw [show 6 + (o + i - 6) = o + i by omega] at this
    exact isU0_eq this, hf⟩
  exact ⟨(hc 0).trans (ptyZ_0 id n), (hc 1).trans (ptyZ_1 id n), (hc 2).trans (ptyZ_2 id n), (hc 3).trans (ptyZ_3 id n), (hc 4).trans (ptyZ_4 id n), hu 6 (by omega) (by omega), hu 38 (by omega) (by omega), hu 70 (by omega) (by omega)⟩
/-- One more party, in block b, behind the others; it stands in the map. -/
theorem BdC.push (h : BdC w p m v bs xs) (hid : 1 ≤ id ∧ id ≤ 9223372036854775807) (hn : NoId xs id) (hl : xs.length < 2000) {wB : World} (k0 : Keep (fun _ => False) w wB) (hb : w.heap.size ≤ b) (hb1 : b < wB.heap.size) (hx : PtyAt wB b xs.length (newP id))
    (o : OwnAt 0 ptrV 56 y3 (.slice (some ⟨g, 0, .none⟩) (xs.length + 1) c) (bs ++ [b])) (k3 : Keep (fun j => v.ownBlock = some j) wB y3) (hg : v.ownBlock = some g ∨ wB.heap.size ≤ g)
    (k4 : Keep (fun j => j = m) (y3.setCell ⟨p, 0, .none⟩ (.slice (some ⟨g, 0, .none⟩) (xs.length + 1) c)) w2) (hm : w2.heap[m]? = some (.map ((ents bs xs).push (keyE id b xs.length)) (xs.length + 1))) :
    BdC w2 p m (.slice (some ⟨g, 0, .none⟩) (xs.length + 1) c) (bs ++ [b]) (xs ++ [newP id]) ∧ Keep (BFt p m v bs xs.length) w w2 := by
  have pl := h.lt p (.inl rfl)
  have ml := h.lt m (.inr (.inl rfl))
  have gp : g ≠ p := fun e => by
    subst e
    rcases hg with y | y
    · exact h.vp y
    · have := k0.size; omega
  have gm : g ≠ m := fun e => by
    subst e
    rcases hg with y | y
    · exact h.vm y
    · have := k0.size; omega
  have bp : b ≠ p := by omega
  have bm : b ≠ m := by omega
  have gb : g ≠ b := fun e => by
    subst e
    rcases hg with y | y
    · have := h.lt g (.inr (.inr (.inl y))); omega
    · omega
  have ln : (xs ++ [newP id]).length = xs.length + 1 := by simp
  obtain ⟨v', ev⟩ : ∃ v', (Value.slice (some ⟨g, 0, .none⟩) (xs.length + 1) c) = v' := ⟨_, rfl⟩
  have vo : v'.ownBlock = some g := by rw [← ev]; rfl
  rw [ev] at o k4 ⊢
  have ks : Keep (fun j => j = p) y3 (y3.setCell ⟨p, 0, .none⟩ v') := keep_one y3 ⟨p, 0, .none⟩ _
  have h1 := h.keep k0 (fun _ _ q => q)
  have nvp : ¬ v.ownBlock = some p := h.vp
  have nvm : ¬ v.ownBlock = some m := h.vm
  have cl3 := k3.cell h1.cl nvp
  have cm3 := k3.cell h1.cm nvp
  have kall : Keep (fun j => v.ownBlock = some j ∨ j = p ∨ j = m) wB w2 := ((k3.mono fun j e => .inl e).trans (ks.mono fun j e => .inr (.inl e))).trans (k4.mono fun j e => .inr (.inr e))
  have vlt : ∀ j, v.ownBlock = some j → j < w.heap.size := fun j e => h.lt j (.inr (.inr (.inl e)))
  have gd : ∀ j, (bs ++ [b]).getD j 0 = if j < xs.length then bs.getD j 0 else if j = xs.length then b else 0 := fun j => bs_push h.bl j
  have pd : ∀ j, pty (xs ++ [newP id]) j = if j < xs.length then pty xs j else if j = xs.length then newP id else noP := fun j => pty_push j
  refine ⟨⟨?_, ?_, fun i => ?_, ?_, by rw [ln, List.length_append, h.bl]; rfl, ?_, fun i hi => ?_, fun i j ij hj => ?_, fun i hi => ?_, fun i hi => ?_, fun i hi => ?_, by rw [vo]; exact fun e => gp (by injection e), by rw [vo]; exact fun e => gm (by injection e), h.pm, by omega, fun i j ij hj => ?_, fun i hi => ?_⟩, ?_⟩
  · exact k4.cell (World.cell?_setCell_same _ _ _ cl3) h.pm
  · exact k4.cell (by rw [World.cell?_setCell_other _ _ _ _ (by intro e; have := congrArg Addr.off e; simp at this)]; exact cm3) h.pm
  · have f1 := (k3.frozen (a := ⟨p, i, .none⟩) (Nat.lt_of_lt_of_le pl k0.size) nvp).trans (h1.fz i)
    have f2 : (y3.setCell ⟨p, 0, .none⟩ v').frozen? ⟨p, i, .none⟩ = false := by rw [World.frozen?_setCell]; exact f1
    exact (k4.frozen (a := ⟨p, i, .none⟩) (Nat.lt_of_lt_of_le pl (Nat.le_trans k0.size (Nat.le_trans k3.size ks.size))) h.pm).trans f2
  · have o1 : Own ptrV 56 y3 v' (bs ++ [b]) := by
      have : (bs ++ [b]).length = xs.length + 1 := by rw [List.length_append, h.bl]; rfl
      exact o
    exact (o1.keep ks (fun x hx e => gp (by rw [vo] at hx; injection hx with hx; rw [hx]; exact e))).keep k4 (fun x hx e => gm (by rw [vo] at hx; injection hx with hx; rw [hx]; exact e))
  · rw [hm, ln, ents_push h.bl]
    rfl
  · rw [ln] at hi
    rw [gd, pd]
    by_cases e : i < xs.length
    · rw [if_pos e, if_pos e]
      exact (h1.en i e).keep kall fun q => by
        rcases q with q | q | q
        · exact h.nv i e q
        · exact h.np i e q
        · exact h.nm i e q
    · have e2 : i = xs.length := by omega
      rw [if_neg e, if_neg e, if_pos e2, if_pos e2, e2]
      exact hx.keep kall fun q => by
        rcases q with q | q | q
        · have := vlt b q; omega
        · exact bp q
        · exact bm q
  · rw [ln] at hj
    rw [gd, gd, if_pos (by omega)]
    by_cases e : j < xs.length
    · rw [if_pos e]; exact h.dj i j ij e
    · rw [if_neg e, if_pos (by omega)]
      have := (h.en i (by omega)).lt
      omega
  · rw [ln] at hi
    rw [gd]
    by_cases e : i < xs.length
    · rw [if_pos e]; exact h.np i e
    · rw [if_neg e, if_pos (by omega)]; exact bp
  · rw [ln] at hi
    rw [gd]
    by_cases e : i < xs.length
    · rw [if_pos e]; exact h.nm i e
    · rw [if_neg e, if_pos (by omega)]; exact bm
  · rw [ln] at hi
    rw [gd, vo]
    intro y
    injection y with y
    by_cases e : i < xs.length
    · rw [if_pos e] at y
      rcases hg with z | z
      · exact h.nv i e (by rw [z, y])
      · have := (h1.en i e).lt; omega
    · rw [if_neg e, if_pos (by omega)] at y
      exact gb y
  · rw [ln] at hj
    rw [pd, pd, if_pos (by omega)]
    by_cases e : j < xs.length
    · rw [if_pos e]; exact h.nd i j ij e
    · rw [if_neg e, if_pos (by omega)]
      exact hn i (by omega)
  · rw [ln] at hi
    rw [pd]
    by_cases e : i < xs.length
    · rw [if_pos e]; exact h.wf i e
    · rw [if_neg e, if_pos (by omega)]
      exact hid
  · refine (k0.mono fun _ q => q.elim).trans (kall.mono fun j e => ?_)
    rcases e with e | e | e
    · exact .inr (.inr (.inl e))
    · exact .inl e
    · exact .inr (.inl e)
set_option maxRecDepth 100000 in
theorem Open_bad (hid : id < 1) : Calls Tryd.prog 11 #[.pointer (some ⟨p, 0, .none⟩), .int .i64 id] w fun e w' => e = .returned (.int .i64 1) ∧ w = w' := by
  go_enter Tryd.func11, Tryd.ntmps11
  go_wp2
  go_ret
  exact ⟨rfl, rfl⟩
set_option maxRecDepth 100000 in
theorem Open_old (h : BdC w p m v bs xs) (h1 : ¬ id < 1) (hid : I64 id) (hi : i < xs.length) (ei : (pty xs i).id = id) : Calls Tryd.prog 11 #[.pointer (some ⟨p, 0, .none⟩), .int .i64 id] w fun e w' => e = .returned (.int .i64 12) ∧ w = w' := by
  have cm := h.cm
  have a1 := h.found hid hi ei 0
  change (Instr.lookup _ _ _ _).run _ w = .ok _ w at a1
  obtain ⟨bx, ebx⟩ : ∃ b, bs.getD i 0 = b := ⟨_, rfl⟩
  rw [ebx] at a1
  clear h hid ei ebx hi
  go_enter Tryd.func11, Tryd.ntmps11
  go_wp2
  go_ret
  exact ⟨rfl, rfl⟩
set_option maxRecDepth 100000 in
theorem Open_many (h : BdC w p m v bs xs) (h1 : ¬ id < 1) (hid : I64 id) (hn : NoId xs id) (hl : 2000 ≤ xs.length) : Calls Tryd.prog 11 #[.pointer (some ⟨p, 0, .none⟩), .int .i64 id] w fun e w' => e = .returned (.int .i64 65) ∧ w = w' := by
  have cm := h.cm
  have a1 := h.none hid hn 0
  change (Instr.lookup _ _ _ _).run _ w = .ok _ w at a1
  have cl := h.cl
  obtain ⟨A, c, rfl, _, _⟩ := h.form
  clear h hid hn
  go_enter Tryd.func11, Tryd.ntmps11
  go_wp2
  go_ret
  exact ⟨rfl, rfl⟩
set_option maxRecDepth 100000 in
set_option maxHeartbeats 1000000 in
theorem Open_new (h : BdC w p m v bs xs) (h1 : ¬ id < 1) (hid : I64 id) (hn : NoId xs id) (hl : xs.length < 2000) :
    Calls Tryd.prog 11 #[.pointer (some ⟨p, 0, .none⟩), .int .i64 id] w fun e w' => e = .returned (.int .i64 0) ∧ ∃ v' b, BdC w' p m v' (bs ++ [b]) (xs ++ [newP id]) ∧ Keep (BFt p m v bs xs.length) w w' ∧ w.heap.size ≤ b ∧ (∀ g, v'.ownBlock = some g → v.ownBlock = some g ∨ w.heap.size ≤ g) := by
  have cm := h.cm
  have a1 := h.none hid hn 0
  change (Instr.lookup _ _ _ _).run _ w = .ok _ w at a1
  have cl := h.cl
  obtain ⟨A, c, rfl, hA0, hA1⟩ := h.form
  have np := new_pty w id xs.length
  have kB : Keep (fun _ => False) w (w.alloc (.cells (ptyZ id xs.length) 73)) := (Keep.refl _ _).alloc _
  have sB : (w.alloc (.cells (ptyZ id xs.length) 73)).heap.size = w.heap.size + 1 := by simp
  have pl := h.lt p (.inl rfl)
  have q17 : decide ((2000 : Int) ≤ (xs.length : Int)) = false := decide_eq_false (by omega)
  have H := Lib.hid h
  have ow : OwnAt 0 ptrV 56 (w.alloc (.cells (ptyZ id xs.length) 73)) (.slice A xs.length c) bs := OwnB.keep h.ow kB (by simp)
  have fz := h.fz 0
  unfold ptyZ at np kB sB ow
  have bl := h.bl
  clear h
  go_enter Tryd.func11, Tryd.ntmps11
  go_wp2_with (with_reducible refine wp_stop 39 rfl ?_)
  intro _
  refine wp_push1 (f := ptrV) Tryd.underlying53 info_ptr rfl (by decide) ptrV_one rfl (.tmp 36) (.tmp 38) rfl 0 (Nat.zero_le _) (.slice A xs.length c) bs rfl ow w.heap.size (by rw [sB]; rfl) (by rw [bl]; omega) ?_
  intro g3 c3 y3 o3 k3 hg3
  rw [bl] at o3
  have nvp : ¬ (Value.slice A xs.length c).ownBlock = some p := H.out.vp
  have nvm : ¬ (Value.slice A xs.length c).ownBlock = some m := H.out.vm
  have cl3 := k3.cell (kB.cell cl (by simp)) nvp
  have cm3 := k3.cell (kB.cell cm (by simp)) nvp
  have fz3 := (k3.frozen (a := ⟨p, 0, .none⟩) (Nat.lt_of_lt_of_le pl kB.size) nvp).trans ((kB.frozen (a := ⟨p, 0, .none⟩) pl (by simp)).trans fz)
  have ks : Keep (fun j => j = p) y3 (y3.setCell ⟨p, 0, .none⟩ (.slice (some ⟨g3, 0, .none⟩) (xs.length + 1) c3)) := keep_one y3 ⟨p, 0, .none⟩ _
  have cm4 : (y3.setCell ⟨p, 0, .none⟩ (.slice (some ⟨g3, 0, .none⟩) (xs.length + 1) c3)).cell? ⟨p, 1, .none⟩ = some (.map (some m)) := by rw [World.cell?_setCell_other _ _ _ _ (by intro e; have := congrArg Addr.off e; simp at this)]; exact cm3
  have ml := H.out.lt m (.inr (.inl rfl))
  have hm4 : (y3.setCell ⟨p, 0, .none⟩ (.slice (some ⟨g3, 0, .none⟩) (xs.length + 1) c3)).heap[m]? = w.heap[m]? :=
    (ks.block m (Nat.lt_of_lt_of_le ml (Nat.le_trans kB.size k3.size)) (fun e => H.out.pm e.symm)).trans ((k3.block m (Nat.lt_of_lt_of_le ml kB.size) nvm).trans (kB.block m ml (by simp)))
  obtain ⟨w2, hrun, k4, hm⟩ := H.out.laid (b := w.heap.size) hid hn hm4
  have hp := H.out.push (b := w.heap.size) ⟨by omega, hid.2⟩ hn hl kB (Nat.le_refl _) (by rw [sB]; omega) np o3 k3 hg3 k4 hm
  have HP := Lib.hid hp
  have HG := Lib.hid (show ∀ g, (Value.slice (some ⟨g3, 0, .none⟩) (xs.length + 1) c3).ownBlock = some g → (Value.slice A xs.length c).ownBlock = some g ∨ w.heap.size ≤ g from fun g e => by
    have e : g3 = g := by injection e
    rw [← e]
    exact hg3.imp_right fun q => Nat.le_trans kB.size q)
  unfold ptrV at hrun
  rw [bl]
  clear hp hm hm4 k4 o3 k3 hg3 np kB ow hid hn fz ml H ks cl cm a1
  go_wp2
  go_ret
  exact ⟨rfl, _, _, HP.out.1, HP.out.2, Nat.le_refl _, HG.out⟩
/-- New Bonds. -/
theorem New_any (w : World) : Calls Tryd.prog 10 #[] w fun e w' => ∃ p m, e = .returned (.pointer (some ⟨p, 0, .none⟩)) ∧ BdC w' p m (.slice .none 0 0) [] [] ∧ Keep (fun _ => False) w w' ∧ w.heap.size ≤ p ∧ w.heap.size ≤ m := by
  have hm : (Instr.makeMap 52 .none).run Tryd.prog w = .ok (.map (some w.heap.size)) (w.alloc (.map #[] 0)) := rfl
  have k1 : Keep (fun _ => False) w (w.alloc (.map #[] 0)) := (Keep.refl _ _).alloc _
  have b1 : (w.alloc (.map #[] 0)).heap[w.heap.size]? = some (.map #[] 0) := heap_alloc_new w _
  have s1 : (w.alloc (.map #[] 0)).heap.size = w.heap.size + 1 := by simp
  obtain ⟨w1, e1⟩ : ∃ w1, w.alloc (.map #[] 0) = w1 := ⟨_, rfl⟩
  rw [e1] at hm k1 b1 s1
  clear e1
  have k2 : Keep (fun _ => False) w1 (w1.alloc (.cells #[.slice .none 0 0, .map (some w.heap.size)] 55)) := (Keep.refl _ _).alloc _
  have hc : ∀ i, (w1.alloc (.cells #[.slice .none 0 0, .map (some w.heap.size)] 55)).cell? ⟨w1.heap.size, i, .none⟩ = #[Value.slice .none 0 0, .map (some w.heap.size)][i]? := fun i => by simp
  have hf : ∀ i, (w1.alloc (.cells #[.slice .none 0 0, .map (some w.heap.size)] 55)).frozen? ⟨w1.heap.size, i, .none⟩ = false := fun i => by simp
  have H : BdC (w1.alloc (.cells #[.slice .none 0 0, .map (some w.heap.size)] 55)) w1.heap.size w.heap.size (.slice .none 0 0) [] [] :=
    { cl := hc 0
      cm := hc 1
      fz := hf
      ow := World.ownsRow_nil _ _ _ _
      bl := rfl
      mp := (k2.block _ (by omega) id).trans b1
      en := fun i hi => absurd hi (Nat.not_lt_zero i)
      dj := fun i j _ hj => absurd hj (Nat.not_lt_zero j)
      np := fun i hi => absurd hi (Nat.not_lt_zero i)
      nm := fun i hi => absurd hi (Nat.not_lt_zero i)
      nv := fun i hi => absurd hi (Nat.not_lt_zero i)
      vp := fun e => (by cases e)
      vm := fun e => (by cases e)
      pm := by omega
      short := Nat.zero_le _
      nd := fun i j _ hj => absurd hj (Nat.not_lt_zero j)
      wf := fun i hi => absurd hi (Nat.not_lt_zero i) }
  rw [s1] at H
  have H := Lib.hid H
  have K := Lib.hid (k1.trans k2)
  clear hc hf k1 k2 b1
  go_enter Tryd.func10, Tryd.ntmps10
  go_wp2
  go_ret
  exact ⟨_, _, rfl, H.out, K.out, Nat.le_succ _, Nat.le_refl _⟩
end
end Go.Proofs.YtjobphjpfknfeaaDoor
