/- awake of vinculumlaw20. Condition: the words and the table of strconv as they are laid. -/
import Derived.Test.YtalkfnblnlcklaaDoorTlW
namespace Go.Proofs.YtalkfnblnlcklaaDoor
open Go.ChangeShapes Go.WideShapes Go.ChangeAt Go.RowKit
set_option linter.unusedVariables false
set_option linter.unusedSimpArgs false
def ev1 : EvI := ⟨1, 1, 1, ⟨0, 0, 0, 1⟩, ⟨0, 0, [], 0, 0⟩⟩
theorem text1 : textT [ev1] = [98, 101, 103, 105, 110, 32, 49, 32, 49, 32, 49, 10] := by
  have h1 : Lib.itoa 1 = [49] := by unfold Lib.itoa; rw [if_neg (by decide)]; show Lib.decDigits 1 = _; unfold Lib.decDigits; rfl
  have h2 : Lib.decDigits 1 = [49] := by unfold Lib.decDigits; rfl
  show lineT ev1 ++ [] = _
  rw [List.append_nil]
  show wordT 1 ++ (32 :: Lib.itoa 1) ++ ((32 :: Lib.decDigits 1) ++ (32 :: Lib.itoa 1)) ++ [10] = _
  rw [h1, h2]
  rfl
theorem ok1 : okAt [ev1] = -1 := by decide
theorem evb1 : ∀ e ∈ [ev1], EvB e := fun e he => by
  rw [List.mem_singleton.1 he]
  exact ⟨by unfold I64; decide, by unfold I64; decide, by unfold Un64; decide, by unfold I64; decide, by unfold I64; decide, fun p hp => by cases hp⟩
theorem EvB.evn {es : List EvI} (h : ∀ e ∈ es, EvB e) : EvN es := fun e he => (h e he).n
section
variable {w w' : World}
theorem deals_form {v : Value} {ds : List DlI} (h : DealsIn w v ds) : ∃ A c, v = .slice A ds.length c := by
  obtain ⟨zs, rfl, ⟨A, c, rfl, _⟩, _⟩ := h
  exact ⟨A, c, by rw [List.length_map]⟩
/-- Events that the call itself has laid, without Pairs. -/
theorem own_evs {v : Value} {es : List EvI} (h : OwnM 12 evF 30 w v (es.map fun e => (e, .slice none 0 0))) (hp : ∀ e ∈ es, e.r.pairs = []) : EvsIn w v es := by
  refine ⟨_, ?_, OwnM.lies evF_len h, fun z hz => ?_⟩
  · rw [List.map_map]; exact List.map_id' _ |>.trans rfl
  · obtain ⟨e, he, rfl⟩ := List.mem_map.1 hz
    rw [show (e, (Value.slice none 0 0)).1.r.pairs = [] from hp e he]
    exact Lies.nil
set_option maxRecDepth 100000 in
set_option maxHeartbeats 2000000 in
theorem awake20_any (hL : LdW w) : Calls Tryd.prog 8 #[] w fun e w' => e = .returned (.bool true) ∧ Keep (fun _ => False) w w' := by
  obtain ⟨V, eV⟩ : ∃ V, w.alloc (.cells #[.int .i64 1, .int .i64 1, .int .u64 1, .int .i64 0, .int .i64 0, .int .i64 0, .int .i64 1, .int .i64 0, .int .i64 0, .slice none 0 0, .int .i64 0, .int .i64 0] 30) = V := ⟨_, rfl⟩
  have kV : Keep (fun _ => False) w V := by rw [← eV]; exact (Keep.refl _ _).alloc _
  have EV : EvsIn V (.slice (some ⟨w.heap.size, 0, none⟩) 1 1) [ev1] := by
    rw [← eV]
    refine own_evs (v := .slice (some ⟨w.heap.size, 0, none⟩) 1 1) ?_ (fun e he => by rw [List.mem_singleton.1 he]; rfl)
    refine ⟨rfl, .inr ⟨w.heap.size, 1, _, rfl, Nat.zero_le _, heap_alloc_new w _, Nat.le_refl _, by decide, rfl, rfl⟩⟩
  have OK := Lib.hid (ok_any EV (EvB.evn evb1) (-1) ok1)
  have LV := hL.on kV
  have EVH := Lib.hid EV
  have KV := Lib.hid kV
  have LH := Lib.hid LV
  clear EV kV LV hL
  go_enter Tryd.func8, Tryd.ntmps8
  go_wp2_with fail
  refine OK.out.mono ?_
  rintro e w1 ⟨rfl, k1⟩
  have L1 := LH.out.on k1
  have TX := text_any (EVH.out.keep k1) evb1 (fun e he => by rw [List.mem_singleton.1 he]; decide) (by decide) L1.t L1.w
  rw [text1] at TX
  have K1 := Lib.hid k1
  have TH := Lib.hid TX
  clear k1 L1 TX
  go_wp2_with fail
  refine TH.out.mono ?_
  rintro e w2 ⟨rfl, k2⟩
  have DL := Lib.hid (deals_tale ((EVH.out.keep K1.out).keep k2) (EvB.evn evb1) (fun e he => by rw [List.mem_singleton.1 he]; decide) (-1) ok1)
  have K2 := Lib.hid k2
  clear k2
  go_wp2_with fail
  refine DL.out.mono ?_
  rintro e w3 ⟨u, rfl, k3, hz, _⟩
  obtain ⟨z, hg, hd⟩ := hz (by trivial)
  obtain ⟨A3, c3, rfl⟩ := deals_form hd
  have l1 : (dealsOf z [ev1]).length = 1 := by
    rw [deals_len, go_len hg]
    rfl
  rw [l1]
  have KF := Lib.hid (((KV.out.trans K1.out).trans K2.out).trans k3)
  clear hz hg hd l1 k3
  go_wp2
  first | go_ret2 | refine bodyPost_ret (v := .bool true) (by simp [results, Tryd.results8, go_sem]) rfl ?_
  exact ⟨rfl, KF.out⟩
end
end Go.Proofs.YtalkfnblnlcklaaDoor
