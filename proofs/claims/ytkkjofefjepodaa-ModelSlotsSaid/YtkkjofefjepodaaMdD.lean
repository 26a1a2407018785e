/- Package model as landed, its laws' face: Do, whole. Condition: numbers that fit. -/
import Derived.Test.YtkkjofefjepodaaMdD3
namespace Go.Proofs.Ytkkjofefjepodaa
open Go.ChangeShapes Go.WideShapes Go.ChangeAt Go.RowKit
set_option linter.unusedVariables false
set_option linter.unusedSimpArgs false
section
variable {W w w' : World} {m : Nat} {S S' T : Nat → Prop} {x y : MoI} {K : Nat → Value} {o : Nat → Nat} {z : LdI} {t : TtI} {L : List (Nat × VeI)} {io : Nat → Int}
theorem okI_le7 {o : OpI} (h : okI o = true) : o.kind ≤ 7 := by
  unfold okI at h
  split at h
  · omega
  · split at h
    · omega
    · split at h
      · omega
      · split at h
        · omega
        · cases h
theorem ldo_any (a : LdAt w m K o z) (l : LrL L io z x) (g : Good x) (s : Int) (op : OpI) : Calls Try.prog 19 #[.pointer (some ⟨m, 0, none⟩), .int .i64 s, opV op] w (DoEnd w m o (x.doR s op) (x.doE s op) fun z' => Lr z' (x.doM s op)) := by
  by_cases hb : s < 0 ∨ 7 < s
  · have e : x.doE s op = 1 := by unfold MoI.doE; rw [if_pos hb]
    have e1 : x.doR s op = re0 := by unfold MoI.doR; rw [e]; rfl
    have e2 : x.doM s op = x := by unfold MoI.doM; rw [e]; rfl
    rw [e, e1, e2]
    exact (do_arg a s hb op).mono fun e w' hd => hd.mono fun z' q => by rw [q]; exact ⟨L, io, l⟩
  · obtain ⟨n, rfl⟩ : ∃ n : Nat, s = (n : Int) := ⟨s.toNat, by omega⟩
    have n8 : n < 8 := by omega
    by_cases hbad : (x.s n).id = 0 ∨ okI op = false
    · have e : x.doE n op = 9 := by unfold MoI.doE; rw [if_neg hb]; exact if_pos hbad
      have e1 : x.doR n op = re0 := by unfold MoI.doR; rw [e]; rfl
      have e2 : x.doM n op = x := by unfold MoI.doM; rw [e]; rfl
      rw [e, e1, e2]
      cases ht : z.s n with
      | none => exact (do_none a n n8 ht op).mono fun e w' hd => hd.mono fun z' q => by rw [q]; exact ⟨L, io, l⟩
      | some t =>
        have ts := l.ts n t n8 ht
        have hok : okI op = false := hbad.resolve_left (by rw [ts.id]; exact ts.nz)
        exact (do_bad a n n8 ht op hok).mono fun e w' hd => hd.mono fun z' q => by rw [q]; exact ⟨L, io, l⟩
    · have hid : (x.s n).id ≠ 0 := fun c => hbad (.inl c)
      obtain ⟨t, ht⟩ := l.sess n8 hid
      have ts := l.ts n t n8 ht
      have hok : okI op = true := by
        cases c : okI op with
        | true => rfl
        | false => exact absurd (.inr c) hbad
      have so := (g.ses n n8).ops
      have hops := ts.ops
      by_cases k67 : op.kind = 7 ∨ op.kind = 6
      · have e : x.doE n op = 0 := by unfold MoI.doE; rw [if_neg hb]; exact (if_neg hbad).trans (if_pos k67)
        have e1 : x.doR n op = (x.run n op).1 := by unfold MoI.doR; rw [e]; rfl
        have e2 : x.doM n op = (x.run n op).2 := by unfold MoI.doM; rw [e]; rfl
        rw [e, e1, e2]
        obtain ⟨kind, key, hi, val⟩ := op
        rcases k67 with q | q
        · have q : kind = 7 := q
          subst q
          have r : x.run n ⟨7, key, hi, val⟩ = (⟨0, 0, [], 4, 1⟩, x.over n) := by unfold MoI.run; rw [if_pos rfl]
          rw [r]
          exact dox_over a l g n8 ht key hi val hok
        · have q : kind = 6 := q
          subst q
          have r : x.run n ⟨6, key, hi, val⟩ = x.commit n := by unfold MoI.run; rw [if_neg (show ¬ (6 : Int) = 7 by decide), if_pos rfl]
          rw [r]
          exact dox_commit a l g n8 ht key hi val hok
      · have kd : decide (op.kind = 6 ∨ op.kind = 7) = false := by rw [decide_eq_false_iff_not]; omega
        by_cases hm : 12 ≤ (x.s n).ops
        · have e : x.doE n op = 65 := by unfold MoI.doE; rw [if_neg hb]; exact (if_neg hbad).trans ((if_neg k67).trans (if_pos hm))
          have e1 : x.doR n op = re0 := by unfold MoI.doR; rw [e]; rfl
          have e2 : x.doM n op = x := by unfold MoI.doM; rw [e]; rfl
          rw [e, e1, e2]
          exact (do_many a n n8 ht op hok kd (by omega)).mono fun e w' hd => hd.mono fun z' q => by rw [q]; exact ⟨L, io, l⟩
        · have e : x.doE n op = 0 := by unfold MoI.doE; rw [if_neg hb]; exact (if_neg hbad).trans ((if_neg k67).trans (if_neg hm))
          have e1 : x.doR n op = (x.run n op).1 := by unfold MoI.doR; rw [e]; rfl
          have e2 : x.doM n op = (x.run n op).2 := by unfold MoI.doM; rw [e]; rfl
          have hop : (x.s n).ops < 12 := by omega
          rw [e, e1, e2]
          obtain ⟨kind, key, hi, val⟩ := op
          have hkk : kind ≤ 5 := by have : kind ≤ 7 := okI_le7 hok; have q : ¬ (kind = 7 ∨ kind = 6) := k67; omega
          obtain ⟨h1, k0, k63, h5, _⟩ := okI_key hok hkk
          have h1 : 1 ≤ kind := h1
          have k0 : 0 ≤ key := k0
          have k63 : key ≤ 63 := k63
          obtain ⟨k, rfl⟩ : ∃ k : Nat, key = (k : Int) := ⟨key.toNat, by omega⟩
          have k64 : k < 64 := by omega
          by_cases k1 : kind = 1
          · subst k1
            have r : x.run n ⟨1, k, hi, val⟩ = (x.count n).get n ⟨1, k, hi, val⟩ := by unfold MoI.run; rw [if_neg (show ¬ (1 : Int) = 7 by decide), if_neg (show ¬ (1 : Int) = 6 by decide), if_pos rfl]
            rw [r]
            exact dox_get a l g n8 ht hop k k64 hi val hok
          · by_cases k5 : kind = 5
            · subst k5
              have r : x.run n ⟨5, k, hi, val⟩ = (x.count n).scan n ⟨5, k, hi, val⟩ := by unfold MoI.run; rw [if_neg (show ¬ (5 : Int) = 7 by decide), if_neg (show ¬ (5 : Int) = 6 by decide), if_neg (show ¬ (5 : Int) = 1 by decide), if_pos rfl]
              rw [r]
              obtain ⟨q1, q2⟩ := h5 rfl
              have q1 : (k : Int) ≤ hi := q1
              have q2 : hi ≤ 63 := q2
              obtain ⟨hh, rfl⟩ : ∃ hh : Nat, hi = (hh : Int) := ⟨hi.toNat, by omega⟩
              exact dox_scan a l g n8 ht hop k hh (by omega) (by omega) val hok
            · have hk : kind = 2 ∨ kind = 3 ∨ kind = 4 := by omega
              have hi0 : hi = 0 := by
                unfold okI at hok
                rcases hk with c | c | c
                · subst c; have := of_decide_eq_true hok; exact this.2.2.2.2
                · subst c; have := of_decide_eq_true hok; exact this.2.2.2.2
                · subst c; have := of_decide_eq_true hok; exact this.2.2.1
              subst hi0
              have r : x.run n ⟨kind, k, 0, val⟩ = (x.count n).write n ⟨kind, k, 0, val⟩ := by unfold MoI.run; rw [if_neg (show ¬ kind = 7 by omega), if_neg (show ¬ kind = 6 by omega), if_neg k1, if_neg k5]
              rw [r]
              exact dox_write a l g n8 ht hop kind val hk k64 hok
theorem md_do (h : Md W w m S x) (s : Int) (o : OpI) (hs : I64 s) (ho : OpB o) (r : ReI) (e0 : Int) (y : MoI) (hr : x.doR s o = r) (he : x.doE s o = e0) (hy : x.doM s o = y) :
    Calls Try.prog 19 #[.pointer (some ⟨m, 0, none⟩), .int .i64 s, opV o] w (MdTold W w m S (fun u => .tuple #[reV r u, .int .i64 e0]) (fun w' u => OwnPr w' u r.pairs) y) := by
  subst hr; subst he; subst hy
  obtain ⟨K, ow, z, a, ⟨L, io, l⟩, e⟩ := h.ld
  refine (ldo_any a l h.gd s o).mono ?_
  rintro e2 w' ⟨u, z', K', o', rfl, lr, ou, og, a2, k2, n3⟩
  obtain ⟨m1, m2⟩ := h.step e (good_do h.gd s o) a2 lr k2 n3
  exact ⟨u, _, rfl, ou, fun g hg => ⟨(og g hg).1, fun c => c (og g hg).2⟩, m1, m2⟩
end
end Go.Proofs.Ytkkjofefjepodaa
