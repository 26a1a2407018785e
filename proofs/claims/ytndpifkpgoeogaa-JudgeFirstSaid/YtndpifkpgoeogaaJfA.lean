/- For JudgeFirst: a set of reads beside the law's own list of keys, behind a box; the closure that tells what is there now. No condition but those of the set. -/
import Derived.Test.YtndpifkpgoeogaaJfI
import Derived.Test.YtndpifkpgoeogaaJuD
import Derived.Test.YtndpifkpgoeogaaMask
import Derived.Test.YtndpifkpgoeogaaRow
import Derived.Test.YtndpifkpgoeogaaCodes
import Derived.ChangeOld
import Derived.Laws.BitsAllLaws
import Derived.Deep.CutRange
import Derived.Deep.CutBlock
import Derived.Deep.LoopGhost
import Derived.BigRegion
import Derived.BigQuiet
import Derived.Deep.RegionHeld3
import Derived.Deep.QuietTactic
namespace Go.Proofs.Ytndpifkpgoeogaa.judgeFirst
open Go.ChangeShapes Go.WideShapes Go.ChangeAt Go.RowKit
set_option linter.unusedVariables false
structure O15 (W w : World) (t : Nat) (S : Nat → Prop) (s : RdS) (ob : Nat) (v : Value) (O : List Int) : Prop where
  r : Rd W w t S s
  c : w.cell? ⟨ob, 0, none⟩ = some v
  f : w.frozen? ⟨ob, 0, none⟩ = false
  o : OwnN W.heap.size w v O
  dS : ¬ S ob
  dv : ∀ g, v.ownBlock = some g → ¬ S g ∧ g ≠ ob
  ob : W.heap.size ≤ ob
theorem OwnN.lower0 {w : World} {B : Nat} {v : Value} {zs : List Int} (o : OwnN B w v zs) : OwnN 0 w v zs := by
  obtain ⟨h1, h2⟩ := o
  refine ⟨h1, ?_⟩
  rcases h2 with h2 | ⟨g, c, cur, hv, hg, r⟩
  · exact .inl h2
  · exact .inr ⟨g, c, cur, hv, Nat.zero_le _, r⟩
section
variable {W w w' y : World} {t ob : Nat} {S S' : Nat → Prop} {s s' : RdS} {v v' : Value} {O : List Int}
theorem O15.lt (h : O15 W w t S s ob v O) : ob < w.heap.size := lt_of_cell (a := ⟨ob, 0, none⟩) h.c
theorem O15.step (h : O15 W w t S s ob v O) (hr : Rd W w' t S' s') (k : VKeep S S' w w') : O15 W w' t S' s' ob v O :=
  ⟨hr, k.1.cell h.c h.dS, (k.1.frozen (a := ⟨ob, 0, none⟩) h.lt h.dS).trans h.f, OwnN.keep h.o k.1 (fun g hg => (h.dv g hg).1), fun x => by rcases k.2 _ x with z | z; exact h.dS z; have := h.lt; omega, fun g hg => ⟨fun x => by rcases k.2 g x with z | z; exact (h.dv g hg).1 z; have := (OwnN.lt h.o hg).2; omega, (h.dv g hg).2⟩, h.ob⟩
theorem O15.quiet (h : O15 W w t S s ob v O) (k : Keep (fun _ => False) w w') : O15 W w' t S s ob v O :=
  ⟨h.r.quiet k, k.cell h.c id, (k.frozen (a := ⟨ob, 0, none⟩) h.lt id).trans h.f, OwnN.keep h.o k (by simp), h.dS, h.dv, h.ob⟩
theorem O15.push (h : O15 W w t S s ob v O) {g c : Nat} {x : Int} (o : OwnN W.heap.size y (.slice (some ⟨g, 0, none⟩) (O.length + 1) c) (O ++ [x])) (k : Keep (fun j => v.ownBlock = some j) w y) (hg : v.ownBlock = some g ∨ w.heap.size ≤ g) :
    O15 W (y.setCell ⟨ob, 0, none⟩ (.slice (some ⟨g, 0, none⟩) (O.length + 1) c)) t S s ob (.slice (some ⟨g, 0, none⟩) (O.length + 1) c) (O ++ [x]) := by
  have nb : ¬ v.ownBlock = some ob := fun e => (h.dv ob e).2 rfl
  have go : g ≠ ob := fun e => by
    rcases hg with z | z
    · exact (h.dv g z).2 e
    · have := h.lt; omega
  have nS : ¬ S g := fun e => by
    rcases hg with z | z
    · exact (h.dv g z).1 e
    · have := h.r.lt g e; omega
  have ks := keep_one y ⟨ob, 0, none⟩ (.slice (some ⟨g, 0, none⟩) (O.length + 1) c)
  have cy := k.cell h.c nb
  have r1 := h.r.own k (fun z hz => ⟨(h.dv z hz).1, (OwnN.lt h.o hz).1⟩)
  refine ⟨r1.own ks (fun z hz => ?_), World.cell?_setCell_same _ _ _ cy, by rw [World.frozen?_setCell]; exact (k.frozen (a := ⟨ob, 0, none⟩) h.lt nb).trans h.f, OwnN.keep o ks (fun z hz e => ?_), h.dS, fun z hz => ?_, h.ob⟩
  · rw [show z = ob from hz]; exact ⟨h.dS, h.ob⟩
  · have : g = z := by simpa [Value.ownBlock] using hz
    exact go (this.trans e)
  · have : g = z := by simpa [Value.ownBlock] using hz
    subst this
    exact ⟨nS, go⟩
/-- What the closure finds beside the set. -/
structure QF (cb ob ib C : Nat) (v : Value) (O : List Int) (i : Nat) (w : World) (S : Nat → Prop) : Prop where
  cC : w.cell? ⟨cb, 0, none⟩ = some (.int .u64 C)
  cO : w.cell? ⟨ob, 0, none⟩ = some v
  cI : w.cell? ⟨ib, 0, none⟩ = some (.int .i64 i)
  o : OwnN 0 w v O
  nC : ¬ S cb
  nO : ¬ S ob
  nI : ¬ S ib
  nv : ∀ g, v.ownBlock = some g → ¬ S g
theorem QF.turn {cb ob ib C i : Nat} (h : QF cb ob ib C v O i w S) (k : VKeep S S' w w') : QF cb ob ib C v O i w' S' := by
  have far : ∀ b u, w.cell? ⟨b, 0, none⟩ = some u → ¬ S b → ¬ S' b := fun b u hc hb x => by
    rcases k.2 b x with z | z
    · exact hb z
    · have := lt_of_cell (a := ⟨b, 0, none⟩) hc; simp at this; omega
  exact ⟨k.1.cell h.cC h.nC, k.1.cell h.cO h.nO, k.1.cell h.cI h.nI, OwnN.keep h.o k.1 h.nv, far _ _ h.cC h.nC, far _ _ h.cO h.nO, far _ _ h.cI h.nI, fun g hg x => by
    rcases k.2 g x with z | z
    · exact h.nv g hg z
    · have := (OwnN.lt h.o hg).2; omega⟩
theorem QF.stay {cb ob ib C i : Nat} : StayJ W t s (QF cb ob ib C v O i) := fun _ h _ k => h.turn k
def NowR (O : List Int) (k : Int) (i : Nat) (jv : Value) (w wr : World) : Prop := ∃ j : Nat, j ≤ i ∧ jv = .int .i64 j ∧ wr = w ∧ ∀ m, m < j → O[m]? ≠ some k
theorem take_not {O : List Int} {k : Int} {i : Nat} (h : ∀ m, m < i → O[m]? ≠ some k) : k ∉ O.take i := fun hm => by
  obtain ⟨m, hl, e⟩ := List.getElem_of_mem hm
  rw [List.length_take] at hl
  rw [List.getElem_take] at e
  exact h m (by omega) (by rw [List.getElem?_eq_getElem (by omega), e])
theorem take_yes {O : List Int} {k : Int} {i j : Nat} (h : O[j]? = some k) (hj : j < i) : k ∈ O.take i := by
  have : (O.take i)[j]? = some k := by rw [List.getElem?_take_of_lt hj]; exact h
  exact List.mem_of_getElem? this
set_option maxRecDepth 100000 in
set_option maxHeartbeats 1000000 in
theorem now_clo {cb ob ib C i : Nat} (h : QF cb ob ib C v O i w S) (hi : i ≤ O.length) (ol : O.length ≤ 40) (hC : C ≤ 18446744073709551615) (k : Nat) (hk : k ≤ 63) :
    Calls Try.prog 11 #[.int .i64 k, .pointer (some ⟨ib, 0, none⟩), .pointer (some ⟨ob, 0, none⟩), .pointer (some ⟨cb, 0, none⟩)] w fun e w' => e = .returned (.int .u64 (nowF C O i k)) ∧ w = w' := by
  have cC := h.cC
  have cO := h.cO
  have cI := h.cI
  obtain ⟨A, c, rfl, hA0, hA1⟩ := OwnN.shapeN h.o
  have o := h.o
  have wk : IntKind.u64.wrap (k : Int) = (k : Int) := IntWalk.u64_in _ (by omega)
  have w5 : IntKind.u64.wrap ((k : Int) + 5) = (k : Int) + 5 := IntWalk.u64_in _ (by omega)
  clear h
  go_enter Try.func11, Try.ntmps11
  go_wp2
  go_loopw [6] (fun jv wr => NowR O k i jv w wr) (fun jv _ => i - (intOf jv).toNat)
  case atStart => exact ⟨0, Nat.zero_le _, rfl, rfl, fun m hm => absurd hm (Nat.not_lt_zero m)⟩
  case round =>
    obtain ⟨j, hj, rfl, rfl, hno⟩ := hrel
    by_cases hlt : j < i
    · have wj : IntKind.i64.wrap ((j : Int) + 1) = (j : Int) + 1 := IntWalk.i64_in _ (by omega)
      have hjl : j < O.length := by omega
      cases A with
      | none => rw [hA0 rfl] at hjl; simp at hjl
      | some ad =>
        obtain ⟨g, rfl⟩ := hA1 _ rfl
        have cj := OwnN.cell o j hjl
        obtain ⟨y, ey⟩ : ∃ y, O.getD j 0 = y := ⟨_, rfl⟩
        have hy : O[j]? = some y := by rw [List.getElem?_eq_getElem hjl, ← ey, List.getD_eq_getElem?_getD, List.getElem?_eq_getElem hjl]; rfl
        rw [ey] at cj
        by_cases e : y = (k : Int)
        · subst e
          have F := Lib.hid (show nowF C O i (k : Int) = (k : Int) + 5 by unfold nowF; rw [if_pos (take_yes hy hlt)])
          clear hno ey hy o hA0 hA1
          go_wp2
          go_ret
          exact ⟨by rw [F.out]; rfl, rfl⟩
        · have HN := Lib.hid (show ∀ m, m < j + 1 → O[m]? ≠ some (k : Int) from fun m hm => by
            by_cases q : m = j
            · subst q; rw [hy]; exact fun z => e (by injection z)
            · exact hno m (by omega))
          have q0 : (y == (k : Int)) = false := by simpa using e
          clear hno ey hy o hA0 hA1 e
          go_wp2
          go_roundw
          case rel => exact ⟨j + 1, by omega, by go_num, rfl, HN.out⟩
          case measure => simp [intOf]; omega
    · obtain rfl : j = i := by omega
      have nt := take_not hno
      cases hb : C.testBit k with
      | true =>
        have F := Lib.hid (show nowF C O j (k : Int) = 1 by unfold nowF; rw [if_neg nt, if_pos (by rw [Int.toNat_natCast]; exact hb)])
        have ba := bit_true hC hb
        clear hno o hA0 hA1 hb nt
        go_wp2
        go_ret
        exact ⟨by rw [F.out]; rfl, rfl⟩
      | false =>
        have F := Lib.hid (show nowF C O j (k : Int) = (k : Int) + 5 by unfold nowF; rw [if_neg nt, if_neg (by rw [Int.toNat_natCast, hb]; simp)])
        have ba := bit_false hC hb
        clear hno o hA0 hA1 hb nt
        go_wp2
        go_ret
        exact ⟨by rw [F.out]; rfl, rfl⟩
theorem nowF_u64 {C : Nat} {i : Nat} (k : Int) (h0 : 0 ≤ k) (h1 : k ≤ 63) : U64 (nowF C O i k) := by
  unfold nowF
  split
  · exact ⟨by omega, by omega⟩
  · split
    · exact ⟨by omega, by omega⟩
    · exact ⟨by omega, by omega⟩
theorem isNow {cb ob ib C i : Nat} (hi : i ≤ O.length) (ol : O.length ≤ 40) (hC : C ≤ 18446744073709551615) :
    IsNow (.func (.func 11) #[] #[.pointer (some ⟨ib, 0, none⟩), .pointer (some ⟨ob, 0, none⟩), .pointer (some ⟨cb, 0, none⟩)]) W t s (QF cb ob ib C v O i) (nowF C O i) := by
  refine ⟨.inr ⟨_, _, rfl, fun a w => rfl, fun k w S h0 h1 h q => ?_⟩, fun k h0 h1 => nowF_u64 k h0 h1⟩
  obtain ⟨n, rfl⟩ : ∃ n : Nat, k = n := ⟨k.toNat, by omega⟩
  refine (now_clo q hi ol hC n (by omega)).mono ?_
  rintro e w' ⟨rfl, rfl⟩
  exact ⟨rfl, S, h, Keep.refl _ _, fun j hj => .inl hj⟩
end
end Go.Proofs.Ytndpifkpgoeogaa.judgeFirst
