/- Contract of slices.SortFunc over a row of writes of the call's own, by the keys: the same writes, no later one below an earlier one; nothing else turns; condition: at most 100,000. -/
import Derived.Test.YthojmdjcfkadoaaWrO
import Derived.Test.YthojmdjcfkadoaaSortF
import Derived.Shelf.SlSortCmp.NoneTotal
namespace Go.Proofs.Ythojmdjcfkadoaa
open Go.ChangeShapes Go.WideShapes Go.ChangeAt Go.RowKit
set_option linter.unusedVariables false

instance : Inhabited WrI := ⟨⟨0, 0, false⟩⟩
theorem lt_wr (x y : WrI) : ltOf (fun x y : WrI => cmpI x.k y.k) x y = decide (x.k < y.k) := by
  unfold ltOf cmpI
  by_cases h1 : x.k < y.k
  · simp [h1]
  · by_cases h2 : y.k < x.k <;> simp [h1, h2]
theorem swo_wr : Go.Sort.SWO (ltOf fun x y : WrI => cmpI x.k y.k) where
  irrefl x := by rw [lt_wr]; simp
  trans x y z h1 h2 := by rw [lt_wr] at *; simp at *; omega
  ntrans x y z h1 h2 := by rw [lt_wr] at *; simp at *; omega
/-- The closure of within: how two writes' keys stand. -/
theorem less_any (x y : WrI) (W : World) : Calls Try.prog 28 #[.agg #[.int .i64 x.k, .int .i64 x.v, .bool x.g], .agg #[.int .i64 y.k, .int .i64 y.v, .bool y.g]] W fun e w' => e = .returned (.int .i64 (cmpI x.k y.k)) ∧ ∃ q os', w' = Go.Sort.grow (W.drewN q) os' := by
  have hc := fun W' => cmp_any x.k y.k W'
  go_enter Try.func28, Try.ntmps28
  go_wp2_with fail
  refine (hc _).mono ?_
  rintro e w1 ⟨rfl, rfl⟩
  go_wp2
  go_ret
  exact ⟨rfl, 0, _, by rw [Go.Sort.alloc_eq_grow, Go.Sort.alloc_eq_grow, Go.Sort.grow_grow]; rfl⟩
section
variable {w w' : World} {B : Nat} {zs : List WrI}
theorem wr_div (t n : Nat) (h : t < n * 3) : t / 3 < n ∧ t % 3 < 3 ∧ t / 3 * 3 + t % 3 = t := by omega
theorem wr_holds {g c n : Nat} (o : OwnW B w (.slice (some ⟨g, 0, none⟩) n c) zs) : Go.Sort.HoldsK wrC 3 w g 0 zs.toArray := by
  intro t ht
  rw [Go.Sort.size_flatK, List.size_toArray] at ht
  obtain ⟨h1, h2, h3⟩ := wr_div t _ ht
  have om : OwnM 3 wrC 38 w (.slice (some ⟨g, 0, none⟩) n c) zs := OwnM.of_base o rfl rfl
  have e := OwnM.cell wrC_len om (t / 3) (t % 3) h1 h2
  rw [h3] at e
  refine ⟨?_, by rw [Nat.zero_add]; exact om.free t⟩
  rw [Nat.zero_add, e, Go.Sort.get_flatK _ _ _ _ (by rw [List.size_toArray]; exact ht)]
  have e2 : (zs.toArray)[t / 3]! = zs[t / 3] := by
    rw [getElem!_pos _ _ (by rw [List.size_toArray]; exact h1)]
    rfl
  rw [e2, getElem!_pos (wrC zs[t / 3]) (t % 3) (by rw [wrC_len]; exact h2)]
  exact List.getElem?_eq_getElem _
theorem sortWorld_keep (g : Nat) (n : Nat) (d : Array WrI) (os : Array Obj) : Keep (fun j => j = g) w (sortWorldK wrC 3 w g 0 n d os) := by
  refine ⟨rfl, rfl, rfl, size_sortWorldK_c wrC 3 w g 0 n d os, fun k hk hn => ?_⟩
  unfold sortWorldK
  rw [Go.Sort.heap_grow_old _ _ (by rw [Go.Sort.size_putRowK]; exact hk)]
  show ((Go.Sort.ahead w n).heap.modify g _)[k]? = _
  rw [Array.getElem?_modify, if_neg (fun e => hn e.symm)]
  rfl
/-- What a sort leaves. -/
def SortedW (w : World) (u : Value) (zs : List WrI) (e : Ending) (w' : World) : Prop :=
  e = .returned (.tuple #[]) ∧ ∃ ws, ws.Perm zs ∧ ws.Pairwise (fun a b => a.k ≤ b.k) ∧ LiesW w' u ws ∧ Keep (fun j => u.ownBlock = some j) w w'
theorem sort_some {g c : Nat} (o : OwnW B w (.slice (some ⟨g, 0, none⟩) zs.length c) zs) (hl : zs.length ≤ 100000) :
    Calls Try.prog 27 #[.slice (some ⟨g, 0, none⟩) zs.length c, .func (.func 28) #[] #[]] w (SortedW w (.slice (some ⟨g, 0, none⟩) zs.length c) zs) := by
  have eg : ∀ args w, (callFunc 28 args).run Try.prog w = .ok (.enter 28 args) w := enters_of Try.func28 (by kernel_rfl) rfl
  have hg : g < w.heap.size := (OwnW.lt o rfl).2
  have hH := wr_holds o
  have hc : zs.length ≤ c := by
    obtain ⟨_, h2⟩ := id o
    rcases h2 with ⟨h2, _⟩ | ⟨g', c', cur, hv, _, _, h3, _⟩
    · cases h2
    · cases hv; exact h3
  have hcon := AnyQ.slices_SortFunc Try.sortW 3 Try.isAgg38 Try.sizeOf38 wrC wrC_len (fun x v hv => by simp [wrC] at hv; rcases hv with rfl | rfl | rfl <;> rfl) (fun x y => cmpI x.k y.k) swo_wr 28 #[] g 0 c zs.toArray w eg (fun _ _ _ _ x y => less_any x y _) hH hg (by rw [List.size_toArray]; omega)
  rw [List.size_toArray] at hcon
  refine Calls.mono hcon ?_
  rintro e w' ⟨rfl, d', n, os, hp, hs, rfl⟩
  obtain ⟨h1, _, h3⟩ := hp
  replace h1 : d'.size = zs.length := h1.trans List.size_toArray
  have x1 : d'.extract 0 zs.length = d' := by rw [← h1]; exact Array.extract_size
  have x2 : zs.toArray.extract 0 zs.length = zs.toArray := by
    have := Array.extract_size (xs := zs.toArray)
    rwa [List.size_toArray] at this
  rw [x1, x2] at h3
  have at' : ∀ (i : Nat) (hi : i < d'.toList.length), d'[i]! = d'.toList[i] := fun i hi => by
    rw [getElem!_pos d' i (by simpa using hi)]
    rfl
  have hd := holdsK_sortWorldK_c wrC 3 w g 0 zs.toArray d' n os hH hg (h1.trans List.size_toArray.symm)
  have l1 : d'.toList.length = zs.length := by simpa using h1
  refine ⟨rfl, d'.toList, by simpa using h3, ?_, ⟨_, c, by rw [l1], by rw [l1]; exact hc, fun _ => ⟨g, 0, rfl, Nat.lt_of_lt_of_le hg (sortWorld_keep g n d' os).size, fun j x hx => ?_⟩⟩, (sortWorld_keep g n d' os).mono (fun j e => by rw [e]; rfl)⟩
  · rw [List.pairwise_iff_getElem]
    intro i j hi hj hij
    have := hs i j (Nat.zero_le _) hij (by rw [l1] at hj; exact hj)
    rw [at' i hi, at' j hj, lt_wr] at this
    simpa using this
  · obtain ⟨hj, rfl⟩ := List.getElem?_eq_some_iff.1 hx
    have c0 := (Go.Sort.HoldsK.cell hd (i := j) (c := 0) (by simpa using hj) (by omega)).1
    have c1 := (Go.Sort.HoldsK.cell hd (i := j) (c := 1) (by simpa using hj) (by omega)).1
    have c2 := (Go.Sort.HoldsK.cell hd (i := j) (c := 2) (by simpa using hj) (by omega)).1
    rw [at' j hj] at c0 c1 c2
    exact ⟨c0, c1, c2⟩
theorem sort_any {u : Value} (o : OwnW B w u zs) (hl : zs.length ≤ 100000) :
    Calls Try.prog 27 #[u, .func (.func 28) #[] #[]] w (SortedW w u zs) := by
  obtain ⟨A, c, rfl, hA0, hA1⟩ := o.shape
  cases A with
  | none =>
    obtain rfl := hA0 rfl
    refine (AnyF.slices_SortFunc_none Try.sortW none c _ w).mono ?_
    rintro e w' ⟨rfl, rfl⟩
    refine ⟨rfl, [], List.Perm.refl _, List.Pairwise.nil, ⟨none, c, rfl, Nat.zero_le _, fun h => absurd h (Nat.lt_irrefl _)⟩, Keep.refl _ _⟩
  | some ad =>
    obtain ⟨g, rfl⟩ := hA1 _ rfl
    exact sort_some o hl
end
end Go.Proofs.Ythojmdjcfkadoaa
