/- Package tower: search: the gaps of a key in all levels, and how many keys it goes by; condition: the words lead from key to key. -/
import Derived.Test.YtopnhkogapidhaaTwN
import Derived.Deep.LoopGhost
namespace Go.Proofs.Ytopnhkogapidhaa
open Go.ChangeShapes Go.WideShapes Go.ChangeAt Go.RowKit
set_option linter.unusedVariables false

/-- The gaps of the four levels, as a value. -/
def gapsV (f g : Nat → Nat) : Value := .agg #[.int .i64 (f 0), .int .i64 (g 0), .int .i64 (f 1), .int .i64 (g 1), .int .i64 (f 2), .int .i64 (g 2), .int .i64 (f 3), .int .i64 (g 3)]
/-- Block b holds them. -/
structure GapsAt (w : World) (b : Nat) (f g : Nat → Nat) : Prop where
  cf : ∀ l, l < 4 → w.cell? ⟨b, l * 2, none⟩ = some (.int .i64 (f l))
  cg : ∀ l, l < 4 → w.cell? ⟨b, l * 2 + 1, none⟩ = some (.int .i64 (g l))
  free : ∀ i, w.frozen? ⟨b, i, none⟩ = false
  lt : b < w.heap.size
section
variable {w w' : World} {b : Nat} {f g : Nat → Nat}
theorem GapsAt.keep {T : Nat → Prop} (h : GapsAt w b f g) (k : Keep T w w') (hn : ¬ T b) : GapsAt w' b f g :=
  ⟨fun l hl => k.cell (h.cf l hl) hn, fun l hl => k.cell (h.cg l hl) hn, fun i => (k.frozen (a := ⟨b, i, none⟩) h.lt hn).trans (h.free i), Nat.lt_of_lt_of_le h.lt k.size⟩
theorem GapsAt.set (h : GapsAt w b f g) (l : Nat) (hl : l < 4) (x y : Nat) : GapsAt ((w.setCell ⟨b, l * 2, none⟩ (.int .i64 x)).setCell ⟨b, l * 2 + 1, none⟩ (.int .i64 y)) b (fun i => if i = l then x else f i) (fun i => if i = l then y else g i) := by
  refine ⟨fun i hi => ?_, fun i hi => ?_, fun i => by simpa using h.free i, by simpa [World.setCell] using h.lt⟩
  · rw [World.cell?_setCell_other _ _ _ _ (by first | (simp; done) | (simp; omega))]
    by_cases e : i = l
    · subst e
      rw [World.cell?_setCell_same _ _ _ (h.cf i hi), if_pos rfl]
    · rw [World.cell?_setCell_other _ _ _ _ (by first | (simp; done) | (simp; omega)), h.cf i hi, if_neg e]
  · by_cases e : i = l
    · subst e
      have := World.cell?_setCell_other w ⟨b, i * 2, none⟩ ⟨b, i * 2 + 1, none⟩ (.int .i64 x) (by simp)
      rw [World.cell?_setCell_same _ _ _ (this.trans (h.cg i hi)), if_pos rfl]
    · rw [World.cell?_setCell_other _ _ _ _ (by first | (simp; done) | (simp; omega)), World.cell?_setCell_other _ _ _ _ (by first | (simp; done) | (simp; omega)), h.cg i hi, if_neg e]
theorem GapsAt.same (h : GapsAt w b f g) (l : Nat) (hl : l < 4) : GapsAt ((w.setCell ⟨b, l * 2, none⟩ (.int .i64 (f l))).setCell ⟨b, l * 2 + 1, none⟩ (.int .i64 (g l))) b f g := by
  have := h.set l hl (f l) (g l)
  have e : ∀ f : Nat → Nat, (fun i => if i = l then f l else f i) = f := fun f => funext fun i => by by_cases e : i = l <;> simp [e]
  rw [e f, e g] at this
  exact this
/-- All of them written once more. -/
theorem GapsAt.all (h : GapsAt w b f g) : ∃ w', ((((((((w.setCell ⟨b, 0, none⟩ (.int .i64 (f 0))).setCell ⟨b, 1, none⟩ (.int .i64 (g 0))).setCell ⟨b, 2, none⟩ (.int .i64 (f 1))).setCell ⟨b, 3, none⟩ (.int .i64 (g 1))).setCell ⟨b, 4, none⟩ (.int .i64 (f 2))).setCell ⟨b, 5, none⟩ (.int .i64 (g 2))).setCell ⟨b, 6, none⟩ (.int .i64 (f 3))).setCell ⟨b, 7, none⟩ (.int .i64 (g 3))) = w' ∧ GapsAt w' b f g ∧ Keep (fun j => j = b) w w' :=
  ⟨_, rfl, (((h.same 0 (by omega)).same 1 (by omega)).same 2 (by omega)).same 3 (by omega), (((((((((Keep.refl (fun j => j = b) w).setCell rfl _).setCell rfl _).setCell rfl _).setCell rfl _).setCell rfl _).setCell rfl _).setCell rfl _).setCell rfl _)⟩
theorem Keep.later {S T : Nat → Prop} {w w1 w2 : World} (h : Keep S w w1) (k : Keep T w1 w2) (hT : ∀ j, T j → w.heap.size ≤ j) : Keep S w w2 :=
  ⟨k.os.trans h.os, k.tape.trans h.tape, k.output.trans h.output, Nat.le_trans h.size k.size, fun j hj n => (k.block j (Nat.lt_of_lt_of_le hj h.size) (fun e => by have := hT j e; omega)).trans (h.block j hj n)⟩
theorem gaps_new (w : World) (f g : Nat → Nat) : GapsAt (w.alloc (.cells #[.int .i64 (f 0), .int .i64 (g 0), .int .i64 (f 1), .int .i64 (g 1), .int .i64 (f 2), .int .i64 (g 2), .int .i64 (f 3), .int .i64 (g 3)] 62)) w.heap.size f g :=
  ⟨fun l hl => by rcases (by omega : l = 0 ∨ l = 1 ∨ l = 2 ∨ l = 3) with rfl | rfl | rfl | rfl <;> simp, fun l hl => by rcases (by omega : l = 0 ∨ l = 1 ∨ l = 2 ∨ l = 3) with rfl | rfl | rfl | rfl <;> simp, fun i => by simp, by simp⟩
theorem Keep.fresh {S : Nat → Prop} {w w1 w2 : World} {b : Nat} (h : Keep S w w1) (k : Keep (fun j => j = b) w1 w2) (hb : w.heap.size ≤ b) : Keep S w w2 :=
  ⟨k.os.trans h.os, k.tape.trans h.tape, k.output.trans h.output, Nat.le_trans h.size k.size, fun j hj n => (k.block j (Nat.lt_of_lt_of_le hj h.size) (fun e => by have e : j = b := e; omega)).trans (h.block j hj n)⟩
end
section
variable {w w' : World} {t p q : Nat} {zs : List Int} {th : Nat → Nat}
/-- In the midst of a look: the level is i less one, the place pl. -/
def SRel (th : Nat → Nat) (w : World) (t p q : Nat) (zs : List Int) (key : Int) (b : Nat) (m : Nat) (vp va vl : Value) (wr : World) : Prop :=
  ∃ (i pl : Nat) (f g : Nat → Nat) (k : Int), m = i ∧ i ≤ 4 ∧ vp = .int .i64 k ∧ va = .int .i64 pl ∧ vl = .int .i64 ((i : Int) - 1) ∧ pl ≤ 64 ∧ (pl = 0 ∨ (i + 1 ≤ th (pl - 1) ∧ (pl : Int) - 1 < key)) ∧
    stpH th key (4 - i) = (k, (pl : Int) - 1) ∧ 0 ≤ k ∧ k + 64 * (i : Int) ≤ 256 ∧ TwAt wr t p q zs ∧ GapsAt wr b f g ∧ Keep (Two p q) w wr ∧ w.heap.size ≤ b ∧ ∀ l, l < 4 → i ≤ l → Gap th key (l + 1) (f l) (g l)
def IRel (th : Nat → Nat) (w : World) (t p q : Nat) (zs : List Int) (key : Int) (b : Nat) (f g : Nat → Nat) (l : Nat) (k0 : Int) (m : Nat) (vp va vn : Value) (wr : World) : Prop :=
  ∃ (pl n : Nat) (k : Int), m + pl = 64 ∧ vp = .int .i64 k ∧ va = .int .i64 pl ∧ vn = .int .i64 n ∧ (pl = 0 ∨ (l + 1 ≤ th (pl - 1) ∧ (pl : Int) - 1 < key)) ∧ IsNx th (l + 1) pl n ∧
    stpK th key ((l + 1 : Nat) : Int) (stpH th key (3 - l)) pl = (k, (pl : Int) - 1) ∧ 0 ≤ k ∧ k ≤ k0 + pl ∧ TwAt wr t p q zs ∧ GapsAt wr b f g ∧ Keep (Two p q) w wr
set_option maxRecDepth 100000 in
theorem search_any (h : TwAt w t p q zs) (rows : ∀ l, l < 4 → RowT th l zs) (key : Int) :
    Calls Try.prog 19 #[.pointer (some ⟨t, 0, none⟩), .int .i64 key] w fun e w' => ∃ f g k, e = .returned (.tuple #[gapsV f g, .int .i64 k]) ∧ stepsT th key = k ∧ (∀ l, l < 4 → Gap th key (l + 1) (f l) (g l)) ∧ TwAt w' t p q zs ∧ Keep (Two p q) w w' := by
  have k0 := Keep.alloc (Keep.refl (fun _ => False) w) (.cells #[.int .i64 0, .int .i64 0, .int .i64 0, .int .i64 0, .int .i64 0, .int .i64 0, .int .i64 0, .int .i64 0] 62)
  have T0 := h.quiet k0
  have G0 : GapsAt (w.alloc (.cells #[.int .i64 0, .int .i64 0, .int .i64 0, .int .i64 0, .int .i64 0, .int .i64 0, .int .i64 0, .int .i64 0] 62)) w.heap.size (fun _ => 0) (fun _ => 0) :=
    ⟨fun l hl => by rcases (by omega : l = 0 ∨ l = 1 ∨ l = 2 ∨ l = 3) with rfl | rfl | rfl | rfl <;> simp, fun l hl => by rcases (by omega : l = 0 ∨ l = 1 ∨ l = 2 ∨ l = 3) with rfl | rfl | rfl | rfl <;> simp, fun i => by simp, by simp⟩
  go_enter Try.func19, Try.ntmps19
  go_wp2
  obtain ⟨b, eb⟩ : ∃ b, w.heap.size = b := ⟨_, rfl⟩
  rw [eb] at G0 ⊢
  go_loopg [5, 6, 7] 4 (fun m vp va vl wr => SRel th w t p q zs key b m vp va vl wr)
  case atStart => exact ⟨4, 0, _, _, 0, rfl, Nat.le_refl _, rfl, rfl, rfl, by omega, .inl rfl, rfl, by omega, by omega, T0, G0, k0.mono (by simp), by omega, fun l h1 h2 => by omega⟩
  case round =>
    obtain ⟨i, pl, f, g, k, hm, hi, rfl, rfl, rfl, h64, hmem, hst, kk0, kk1, T, G, K, hb, hg⟩ := hrel
    clear k0 T0 G0
    rcases (by cases i; exact .inl rfl; exact .inr ⟨_, rfl⟩ : i = 0 ∨ ∃ l, i = l + 1) with rfl | ⟨l, rfl⟩
    · have c0 : wr.cell? ⟨b, 0, none⟩ = some (.int .i64 (f 0)) := G.cf 0 (by omega)
      have c1 : wr.cell? ⟨b, 1, none⟩ = some (.int .i64 (g 0)) := G.cg 0 (by omega)
      have c2 : wr.cell? ⟨b, 2, none⟩ = some (.int .i64 (f 1)) := G.cf 1 (by omega)
      have c3 : wr.cell? ⟨b, 3, none⟩ = some (.int .i64 (g 1)) := G.cg 1 (by omega)
      have c4 : wr.cell? ⟨b, 4, none⟩ = some (.int .i64 (f 2)) := G.cf 2 (by omega)
      have c5 : wr.cell? ⟨b, 5, none⟩ = some (.int .i64 (g 2)) := G.cg 2 (by omega)
      have c6 : wr.cell? ⟨b, 6, none⟩ = some (.int .i64 (f 3)) := G.cf 3 (by omega)
      have c7 : wr.cell? ⟨b, 7, none⟩ = some (.int .i64 (g 3)) := G.cg 3 (by omega)
      have fz := G.free
      obtain ⟨W8, e8, G8, K8⟩ := G.all
      go_wp2

      have v0 : W8.cell? ⟨b, 0, none⟩ = some (.int .i64 (f 0)) := G8.cf 0 (by omega)
      have v1 : W8.cell? ⟨b, 1, none⟩ = some (.int .i64 (g 0)) := G8.cg 0 (by omega)
      have v2 : W8.cell? ⟨b, 2, none⟩ = some (.int .i64 (f 1)) := G8.cf 1 (by omega)
      have v3 : W8.cell? ⟨b, 3, none⟩ = some (.int .i64 (g 1)) := G8.cg 1 (by omega)
      have v4 : W8.cell? ⟨b, 4, none⟩ = some (.int .i64 (f 2)) := G8.cf 2 (by omega)
      have v5 : W8.cell? ⟨b, 5, none⟩ = some (.int .i64 (g 2)) := G8.cg 2 (by omega)
      have v6 : W8.cell? ⟨b, 6, none⟩ = some (.int .i64 (f 3)) := G8.cf 3 (by omega)
      have v7 : W8.cell? ⟨b, 7, none⟩ = some (.int .i64 (g 3)) := G8.cg 3 (by omega)
      exact bodyPost_ret (v := .tuple #[gapsV f g, .int .i64 k]) (by simp [results, Try.results19, go_sem, gapsV, v0, v1, v2, v3, v4, v5, v6, v7]) rfl ⟨f, g, k, rfl, by unfold stepsT; rw [hst], fun l hl => hg l hl (Nat.zero_le _), T.keep K8 (by have := h.lt; omega) (by have := h.lt; omega) (by have := h.lt; omega), K.fresh K8 (by omega)⟩
    · have el : ((l + 1 : Nat) : Int) - 1 = (l : Int) := by omega
      rw [el]
      have hl : l < 4 := by omega
      obtain ⟨n, en, nx⟩ := rows l hl pl h64 (hmem.imp_right (fun x => by omega))
      have hN := next_at T l pl n hl h64 en nx.le
      have d1 : decide ((0 : Int) ≤ (l : Int)) = true := decide_eq_true (by omega)
      have hk0 : k + 64 * ((l + 1 : Nat) : Int) ≤ 256 := kk1
      have st0 : stpK th key ((l + 1 : Nat) : Int) (stpH th key (3 - l)) pl = (k, (pl : Int) - 1) := by
        rw [show 4 - (l + 1) = 3 - l by omega] at hst
        rw [hst]
        exact stp_low pl (by show (pl : Int) ≤ (pl : Int) - 1 + 1; omega)
      have st1 : stpH th key (4 - l) = stpK th key ((l + 1 : Nat) : Int) (stpH th key (3 - l)) 64 := by
        rw [show 4 - l = (3 - l) + 1 by omega, stpH, show (4 : Int) - ((3 - l : Nat) : Int) = ((l + 1 : Nat) : Int) by omega]
      have ST := Lib.hid (And.intro st0 st1)
      clear st0 st1 hst en el
      go_wp2_with fail
      refine hN.mono ?_
      rintro e w1 ⟨rfl, T1, K1⟩
      have G1 := G.keep K1 (fun x => by have := h.lt; rcases x with x | x <;> omega)
      have K2 := K.trans K1
      clear T G K K1 hN
      go_wp2_with fail
      go_loopg [5, 6, 8] (64 - pl) (fun m vp va vn wr => IRel th w t p q zs key b f g l k m vp va vn wr)
      case atStart => exact ⟨pl, n, k, by omega, rfl, rfl, rfl, hmem.imp_right (fun x => ⟨by omega, x.2⟩), nx, ST.out.1, kk0, by omega, T1, G1, K2⟩
      case round =>
        clear nx T1 G1 K2 hmem
        obtain ⟨p2, n2, k2, hm2, rfl, rfl, rfl, hmem2, nx2, st2, kk2, kk3, T2, G2, K2⟩ := hrel
        have ST2 := Lib.hid st2
        clear st2
        have wk2 : IntKind.i64.wrap (k2 + 1) = k2 + 1 := IntWalk.i64_in _ (by omega)
        have wl : IntKind.i64.wrap ((l : Int) - 1) = (l : Int) - 1 := IntWalk.i64_in _ (by omega)
        have n64 := nx2.le
        have mem2 : p2 = 0 ∨ (l + 1 ≤ th (p2 - 1) ∧ (p2 : Int) - 1 < key) := hmem2
        have GF : ∀ n' : Nat, IsNx th (l + 1) p2 n' → (n' = 0 ∨ key ≤ (n' : Int) - 1) → ∀ i, l ≤ i → ∀ j, j < 4 → i ≤ j → Gap th key (j + 1) ((fun i => if i = l then p2 else f i) j) ((fun i => if i = l then n' else g i) j) := fun n' x1 x2 i hi j hj hij => by
          dsimp only
          by_cases e : j = l
          · subst e
            rw [if_pos rfl, if_pos rfl]
            exact ⟨hmem2, by omega, x1, x2⟩
          · rw [if_neg e, if_neg e]
            exact hg j hj (by omega)
        clear hmem2
        by_cases hn : n2 = 0
        · subst hn
          have d2 : decide ((0 : Int) ≤ (l : Int)) = true := decide_eq_true (by omega)
          have q1 : (l : Int).toNat = l := by omega
          have cf := G2.cf l hl
          have cg := G2.cg l hl
          have fz := G2.free
          have GF := Lib.hid (GF 0 nx2 (.inl rfl))
          have SE := stp_end ST2.out (by omega) nx2 (.inl rfl)
          have GS := G2.set l hl p2 0
          have KS : Keep (fun j => j = b) wr ((wr.setCell ⟨b, l * 2, none⟩ (.int .i64 p2)).setCell ⟨b, l * 2 + 1, none⟩ (.int .i64 ((0 : Nat) : Int))) := ((Keep.refl (fun j => j = b) wr).setCell rfl _).setCell rfl _
          have SE := Lib.hid SE
          go_wp2
          go_roundg l
          case measure => omega
          case rel => exact ⟨l, p2, _, _, k2, rfl, by omega, rfl, rfl, rfl, by omega, mem2, by rw [ST.out.2]; exact SE.out, kk2, by omega, T2.keep KS (by have := h.lt; omega) (by have := h.lt; omega) (by have := h.lt; omega), GS, K2.fresh KS (by omega), by omega, GF.out _ (by omega)⟩
        · obtain ⟨k3, ek⟩ : ∃ k3, (n2 : Int) - 1 = k3 := ⟨_, rfl⟩
          have hK := key_any n2 n64 k3 ek
          have d0 : ((n2 : Int) != 0) = true := by simp; omega
          by_cases hlt : k3 < key
          · have d2 : decide (k3 < key) = true := decide_eq_true hlt
            obtain ⟨q1, q2, q3, q4⟩ := nx2.step hn
            obtain ⟨n3, en3, nx3⟩ := rows l hl n2 n64 (.inr q3)
            have hN3 := next_at T2 l n2 n3 hl n64 en3 nx3.le
            have ON := Lib.hid (stp_on ST2.out nx2 hn (by omega))
            have mem3 : n2 = 0 ∨ (l + 1 ≤ th (n2 - 1) ∧ (n2 : Int) - 1 < key) := .inr ⟨q3, by omega⟩
            have EK := Lib.hid ek
            clear en3 q4 ek
            go_wp2_with (go_at_call 28; refine (hK _).mono ?_; rintro e w' ⟨rfl, rfl⟩)
            refine hN3.mono ?_
            rintro e w3 ⟨rfl, T3, K3⟩
            have G3 := G2.keep K3 (fun x => by have := h.lt; rcases x with x | x <;> omega)
            have K4 := K2.trans K3
            clear T2 G2 K2 K3 hN3
            go_wp2
            go_roundg (64 - n2)
            case measure => omega
            case rel => exact ⟨n2, n3, k2 + 1, by omega, rfl, rfl, rfl, mem3, nx3, ON.out, by omega, by omega, T3, G3, K4⟩
          · have d2 : decide (k3 < key) = false := decide_eq_false hlt
            have SE := Lib.hid (stp_end ST2.out (by omega) nx2 (.inr (by omega)))
            have GS := G2.set l hl p2 n2
            have KS : Keep (fun j => j = b) wr ((wr.setCell ⟨b, l * 2, none⟩ (.int .i64 p2)).setCell ⟨b, l * 2 + 1, none⟩ (.int .i64 n2)) := ((Keep.refl (fun j => j = b) wr).setCell rfl _).setCell rfl _
            have q1 : (l : Int).toNat = l := by omega
            have cf := G2.cf l hl
            have cg := G2.cg l hl
            have fz := G2.free
            have GF := Lib.hid (GF n2 nx2 (.inr (by omega)))
            have EK := Lib.hid ek
            clear ek
            go_wp2_with (go_at_call 28; refine (hK _).mono ?_; rintro e w' ⟨rfl, rfl⟩)
            go_roundg l
            case measure => omega
            case rel => exact ⟨l, p2, _, _, k2, rfl, by omega, rfl, rfl, rfl, by omega, mem2, by rw [ST.out.2]; exact SE.out, kk2, by omega, T2.keep KS (by have := h.lt; omega) (by have := h.lt; omega) (by have := h.lt; omega), GS, K2.fresh KS (by omega), by omega, GF.out _ (by omega)⟩
end
end Go.Proofs.Ytopnhkogapidhaa
