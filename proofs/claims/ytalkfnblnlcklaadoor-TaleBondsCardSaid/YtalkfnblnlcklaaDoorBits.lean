/- Plain facts on 64-bit words, of no program: masks by a power of two, the bit of value 2^40 set, cleared and asked; each holds for every number within the bounds that it names. -/
import Derived.Laws.BitsAllLaws
import Derived.Laws.BitsLemmas
namespace Go.Proofs.YtalkfnblnlcklaaDoor

theorem i64_mask (n : Int) (j : Nat) (hj : j ≤ 62) : bits .and .i64 n ((2 ^ j - 1 : Nat) : Int) = n % ((2 ^ j : Nat) : Int) := by
  have hp : 2 ^ j ≤ 2 ^ 62 := Nat.pow_le_pow_right (by decide) hj
  have hpos : 0 < 2 ^ j := Nat.two_pow_pos j
  have hm : (BitVec.ofInt 64 ((2 ^ j - 1 : Nat) : Int)).toNat = 2 ^ j - 1 := by
    rw [BitVec.ofInt_natCast, BitVec.toNat_ofNat]; exact Nat.mod_eq_of_lt (by omega)
  have key : (BitVec.ofInt 64 n &&& BitVec.ofInt 64 ((2 ^ j - 1 : Nat) : Int)).toNat = (n % ((2 ^ 64 : Nat) : Int)).toNat % 2 ^ j := by
    rw [BitVec.toNat_and, BitVec.toNat_ofInt, hm, Nat.and_two_pow_sub_one_eq_mod]
  show IntKind.i64.wrap ((BitVec.ofInt 64 n &&& BitVec.ofInt 64 ((2 ^ j - 1 : Nat) : Int)).toNat : Nat) = _
  rw [key, IntKind.wrap_i64]
  have hd : ((2 ^ j : Nat) : Int) ∣ ((2 ^ 64 : Nat) : Int) := by
    exact_mod_cast Nat.pow_dvd_pow 2 (by omega : j ≤ 64)
  have hmm : (n % ((2 ^ 64 : Nat) : Int)) % ((2 ^ j : Nat) : Int) = n % ((2 ^ j : Nat) : Int) := Int.emod_emod_of_dvd n hd
  have hnn : 0 ≤ n % ((2 ^ 64 : Nat) : Int) := Int.emod_nonneg _ (by decide)
  have hcast : (((n % ((2 ^ 64 : Nat) : Int)).toNat % 2 ^ j : Nat) : Int) = n % ((2 ^ j : Nat) : Int) := by
    rw [Int.natCast_emod, Int.toNat_of_nonneg hnn, hmm]
  rw [hcast]
  have h0 : 0 ≤ n % ((2 ^ j : Nat) : Int) := Int.emod_nonneg _ (by omega)
  have h1 : n % ((2 ^ j : Nat) : Int) < ((2 ^ j : Nat) : Int) := Int.emod_lt_of_pos _ (by omega)
  have h2 : ((2 ^ j : Nat) : Int) ≤ 4611686018427387904 := Int.ofNat_le.mpr hp
  generalize n % ((2 ^ j : Nat) : Int) = r at h0 h1 ⊢
  generalize ((2 ^ j : Nat) : Int) = q at h1 h2
  omega
theorem i64_mask3 (n : Int) : bits .and .i64 n 7 = n % 8 := i64_mask n 3 (by decide)
theorem i64_mask12 (n : Int) : bits .and .i64 n 4095 = n % 4096 := i64_mask n 12 (by decide)
theorem i64_mask16 (n : Int) : bits .and .i64 n 65535 = n % 65536 := i64_mask n 16 (by decide)

theorem u64_mask3 (n : Int) (h0 : 0 ≤ n) (h1 : n ≤ 18446744073709551615) : bits .and .u64 n 7 = n % 8 := by
  rw [u64_and n 7 h0 (by omega) (by decide) (by decide)]
  show ((n.toNat &&& 7 : Nat) : Int) = _
  rw [nat_mask3]; omega
theorem u64_mask16 (n : Int) (h0 : 0 ≤ n) (h1 : n ≤ 18446744073709551615) : bits .and .u64 n 65535 = n % 65536 := by
  rw [u64_and n 65535 h0 (by omega) (by decide) (by decide)]
  show ((n.toNat &&& 65535 : Nat) : Int) = _
  rw [nat_mask16]; omega
theorem u64_mask17 (n : Int) (h0 : 0 ≤ n) (h1 : n ≤ 18446744073709551615) : bits .and .u64 n 131071 = n % 131072 := by
  rw [u64_and n 131071 h0 (by omega) (by decide) (by decide)]
  show ((n.toNat &&& 131071 : Nat) : Int) = _
  rw [nat_mask17]; omega
theorem nat_mask40 (x : Nat) : x &&& 1099511627775 = x % 1099511627776 := Nat.and_two_pow_sub_one_eq_mod x 40
theorem u64_mask40 (n : Int) (h0 : 0 ≤ n) (h1 : n ≤ 18446744073709551615) : bits .and .u64 n 1099511627775 = n % 1099511627776 := by
  rw [u64_and n 1099511627775 h0 (by omega) (by decide) (by decide)]
  show ((n.toNat &&& 1099511627775 : Nat) : Int) = _
  rw [nat_mask40]; omega
theorem nat_mask39 (x : Nat) : x &&& 549755813887 = x % 549755813888 := Nat.and_two_pow_sub_one_eq_mod x 39
theorem u64_mask39 (n : Int) (h0 : 0 ≤ n) (h1 : n ≤ 18446744073709551615) : bits .and .u64 n 549755813887 = n % 549755813888 := by
  rw [u64_and n 549755813887 h0 (by omega) (by decide) (by decide)]
  show ((n.toNat &&& 549755813887 : Nat) : Int) = _
  rw [nat_mask39]; omega

/-- Is the bit of value 2^40 set? -/
def mkd (a : Int) : Bool := decide (a / 1099511627776 % 2 = 1)
/-- The word with that bit set; cleared. -/
def markI (a : Int) : Int := if a / 1099511627776 % 2 = 1 then a else a + 1099511627776
def clearI (a : Int) : Int := if a / 1099511627776 % 2 = 1 then a - 1099511627776 else a
/-- A link's slot and tag. -/
def uslot (a : Int) : Int := a % 131072 - 1
def utag (a : Int) : Int := a / 131072 % 65536

theorem bit40_and (a : Int) (h0 : 0 ≤ a) (h1 : a ≤ 18446744073709551615) : bits .and .u64 a 1099511627776 = a / 1099511627776 % 2 * 1099511627776 := by
  obtain ⟨n, rfl⟩ := Int.eq_ofNat_of_zero_le h0
  rw [u64_and _ 1099511627776 h0 (by omega) (by decide) (by decide)]
  show ((n &&& 2 ^ 40 : Nat) : Int) = _
  rw [nat_bit]; omega
theorem bit40_ne (a : Int) (h0 : 0 ≤ a) (h1 : a ≤ 18446744073709551615) : (bits .and .u64 a 1099511627776 != 0) = mkd a := by
  rw [bit40_and a h0 h1]; unfold mkd
  by_cases h : a / 1099511627776 % 2 = 1
  · rw [h]; decide
  · have h' : a / 1099511627776 % 2 = 0 := by omega
    rw [h']; decide
theorem nat_or_of (x c : Nat) (hx : x < 2 ^ 64) (hc : c < 2 ^ 64) (h : x &&& c = 0) (hs : x + c < 2 ^ 64) : x ||| c = x + c := by
  have hb : BitVec.ofNat 64 x &&& BitVec.ofNat 64 c = 0#64 := by
    apply BitVec.eq_of_toNat_eq
    rw [BitVec.toNat_and, BitVec.toNat_ofNat, BitVec.toNat_ofNat, Nat.mod_eq_of_lt hx, Nat.mod_eq_of_lt hc, h]; rfl
  have k := congrArg BitVec.toNat (BitVec.add_eq_or_of_and_eq_zero _ _ hb)
  rw [BitVec.toNat_or, BitVec.toNat_add, BitVec.toNat_ofNat, BitVec.toNat_ofNat, Nat.mod_eq_of_lt hx, Nat.mod_eq_of_lt hc, Nat.mod_eq_of_lt hs] at k
  exact k.symm
theorem nat_or40 (n : Nat) (h : n < 18446744073709551616) : n ||| 1099511627776 = if n / 1099511627776 % 2 = 1 then n else n + 1099511627776 := by
  have hb : n &&& 1099511627776 = n / 1099511627776 % 2 * 1099511627776 := nat_bit 40 n
  split
  · rename_i hs
    rw [hs] at hb
    apply Nat.eq_of_testBit_eq
    intro i
    have hi := congrArg (fun z => Nat.testBit z i) hb
    simp only [Nat.testBit_and, Nat.one_mul] at hi
    rw [Nat.testBit_or]
    cases h1 : n.testBit i <;> cases h2 : (1099511627776 : Nat).testBit i <;> simp_all
  · rename_i hs
    have hz : n / 1099511627776 % 2 = 0 := by omega
    rw [hz, Nat.zero_mul] at hb
    exact nat_or_of n 1099511627776 h (by decide) hb (by omega)
theorem or40 (a : Int) (h0 : 0 ≤ a) (h1 : a ≤ 18446744073709551615) : bits .or .u64 a 1099511627776 = markI a := by
  obtain ⟨n, rfl⟩ := Int.eq_ofNat_of_zero_le h0
  rw [u64_or _ 1099511627776 h0 (by omega) (by decide) (by decide)]
  show ((n ||| 1099511627776 : Nat) : Int) = _
  rw [nat_or40 n (by omega)]
  unfold markI
  split <;> rename_i h <;> (split <;> omega)
theorem nat_clear40 (n : Nat) (h : n < 18446744073709551616) : n &&& (18446744073709551615 - 1099511627776) = n - n / 1099511627776 % 2 * 1099511627776 := by
  have hb : n &&& 1099511627776 = n / 1099511627776 % 2 * 1099511627776 := nat_bit 40 n
  have hm : ∀ i, (18446744073709551615 - 1099511627776 : Nat).testBit i = (decide (i < 64) && !(1099511627776 : Nat).testBit i) := fun i => Nat.testBit_two_pow_sub_succ (n := 64) (x := 1099511627776) (by decide) i
  have hn : ∀ i, n.testBit i = true → i < 64 := fun i hi => Nat.lt_of_not_le fun hle => by
    have := Nat.testBit_lt_two_pow (Nat.lt_of_lt_of_le h (Nat.pow_le_pow_right (n := 2) (by decide) hle : 2 ^ 64 ≤ 2 ^ i))
    rw [this] at hi; cases hi
  have hz : (n &&& (18446744073709551615 - 1099511627776)) &&& (n &&& 1099511627776) = 0 := by
    apply Nat.eq_of_testBit_eq
    intro i
    rw [Nat.testBit_and, Nat.testBit_and, Nat.testBit_and, hm i, Nat.zero_testBit]
    cases n.testBit i <;> cases (1099511627776 : Nat).testBit i <;> simp
  have ho : (n &&& (18446744073709551615 - 1099511627776)) ||| (n &&& 1099511627776) = n := by
    apply Nat.eq_of_testBit_eq
    intro i
    rw [Nat.testBit_or, Nat.testBit_and, Nat.testBit_and, hm i]
    cases hc : n.testBit i
    · rfl
    · have := hn i hc
      cases (1099511627776 : Nat).testBit i <;> simp [this]
  have hl : n &&& (18446744073709551615 - 1099511627776) < 2 ^ 64 := Nat.and_lt_two_pow _ (by decide)
  have hk : n &&& 1099511627776 < 2 ^ 64 := Nat.and_lt_two_pow _ (by decide)
  have hle : n &&& (18446744073709551615 - 1099511627776) ≤ 18446744073709551615 - 1099511627776 := Nat.and_le_right
  have hs := nat_or_of _ _ hl hk hz (by omega)
  omega
theorem clear40 (a : Int) (h0 : 0 ≤ a) (h1 : a ≤ 18446744073709551615) : bits .andNot .u64 a 1099511627776 = clearI a := by
  obtain ⟨n, rfl⟩ := Int.eq_ofNat_of_zero_le h0
  rw [u64_andNot _ 1099511627776 h0 (by omega) (by decide) (by decide)]
  show ((n &&& (18446744073709551615 - 1099511627776) : Nat) : Int) = _
  rw [nat_clear40 n (by omega)]
  unfold clearI
  split <;> omega
theorem markI_bd (a : Int) (h0 : 0 ≤ a) (h1 : a ≤ 18446744073709551615) : 0 ≤ markI a ∧ markI a ≤ 18446744073709551615 := by
  unfold markI; split <;> omega
theorem clearI_bd (a : Int) (h0 : 0 ≤ a) (h1 : a ≤ 18446744073709551615) : 0 ≤ clearI a ∧ clearI a ≤ 18446744073709551615 := by
  unfold clearI; split <;> omega
theorem and_one (a : Int) (h0 : 0 ≤ a) (h1 : a ≤ 18446744073709551615) : bits .and .u64 a 1 = a % 2 := by
  rw [u64_and a 1 h0 (by omega) (by decide) (by decide)]
  show ((a.toNat &&& 1 : Nat) : Int) = _
  rw [nat_mask1]; omega

/-- A link; the word of a time, of a transaction, of a stamp; the stamp of a word: 1.1, 1.2. -/
def linkI (a b : Int) : Int := b * 131072 + a + 1
theorem linkI_or (a b : Int) (h0 : 0 ≤ a) (h1 : a ≤ 65535) (g0 : 0 ≤ b) (g1 : b ≤ 65535) : bits .or .u64 (b * 131072) (a + 1) = linkI a b := by
  obtain ⟨m, rfl⟩ := Int.eq_ofNat_of_zero_le h0
  obtain ⟨n, rfl⟩ := Int.eq_ofNat_of_zero_le g0
  have k := nat_join 17 (n * 131072) (m + 1) (by omega) (by omega)
  have c1 : (n : Int) * 131072 = ((n * 131072 : Nat) : Int) := by omega
  have c2 : (m : Int) + 1 = ((m + 1 : Nat) : Int) := by omega
  unfold linkI
  rw [c1, c2, u64_or_nat _ _ (by omega) (by omega), k]; omega
def timeW (a : Int) : Int := if a ≤ 1099511627776 then a else 0
def timeB (a : Int) : Bool := decide (a ≤ 1099511627776)
theorem timeW_yes (a : Int) (h : a ≤ 1099511627776) : timeW a = a := if_pos h
theorem timeB_yes (a : Int) (h : a ≤ 1099511627776) : timeB a = true := decide_eq_true h
theorem timeW_no (a : Int) (h : 1099511627776 < a) : timeW a = 0 := if_neg (by omega)
theorem timeB_no (a : Int) (h : 1099511627776 < a) : timeB a = false := decide_eq_false (by omega)
def txnW (a : Int) : Int := if 1 ≤ a ∧ a ≤ 65535 then 4611686018427387904 + a else 0
def txnB (a : Int) : Bool := decide (1 ≤ a ∧ a ≤ 65535)
theorem txn_cases (a : Int) : (1 ≤ a ∧ a ≤ 65535 ∧ txnW a = 4611686018427387904 + a ∧ txnB a = true) ∨ (a < 1 ∧ txnW a = 0 ∧ txnB a = false) ∨ (65535 < a ∧ txnW a = 0 ∧ txnB a = false) := by
  unfold txnW txnB
  by_cases h : 1 ≤ a ∧ a ≤ 65535
  · exact .inl ⟨h.1, h.2, if_pos h, decide_eq_true h⟩
  · by_cases h' : a < 1
    · exact .inr (.inl ⟨h', if_neg h, decide_eq_false h⟩)
    · exact .inr (.inr ⟨by omega, if_neg h, decide_eq_false h⟩)
def rdK (a : Int) : Int := if a ≤ 1099511627776 then 1 else if a = 2305843009213693952 then 3 else if 4611686018427387904 < a ∧ a ≤ 4611686018427453439 then 2 else 0
def rdN (a : Int) : Int := if a ≤ 1099511627776 then a else if 4611686018427387904 < a ∧ a ≤ 4611686018427453439 then a - 4611686018427387904 else 0
theorem rd_cases (a : Int) : (a ≤ 1099511627776 ∧ rdK a = 1 ∧ rdN a = a) ∨ (a = 2305843009213693952 ∧ rdK a = 3 ∧ rdN a = 0) ∨ (4611686018427387904 < a ∧ a ≤ 4611686018427453439 ∧ rdK a = 2 ∧ rdN a = a - 4611686018427387904)
    ∨ (1099511627776 < a ∧ a ≠ 2305843009213693952 ∧ (a ≤ 4611686018427387904 ∨ 4611686018427453439 < a) ∧ rdK a = 0 ∧ rdN a = 0) := by
  unfold rdK rdN
  by_cases h : a ≤ 1099511627776
  · exact .inl ⟨h, if_pos h, if_pos h⟩
  · by_cases h1 : a = 2305843009213693952
    · subst h1; exact .inr (.inl ⟨rfl, by decide, by decide⟩)
    · by_cases h2 : 4611686018427387904 < a ∧ a ≤ 4611686018427453439
      · exact .inr (.inr (.inl ⟨h2.1, h2.2, by rw [if_neg h, if_neg h1, if_pos h2], by rw [if_neg h, if_pos h2]⟩))
      · exact .inr (.inr (.inr ⟨by omega, h1, by omega, by rw [if_neg h, if_neg h1, if_neg h2], by rw [if_neg h, if_neg h2]⟩))
def befI (a b : Int) : Bool := decide (a ≤ 1099511627776 ∧ (b = 2305843009213693952 ∨ b ≤ 1099511627776 ∧ a < b))
theorem bef_cases (a b : Int) : (1099511627776 < a ∧ befI a b = false) ∨ (a ≤ 1099511627776 ∧ b = 2305843009213693952 ∧ befI a b = true) ∨ (a ≤ 1099511627776 ∧ b ≠ 2305843009213693952 ∧ 1099511627776 < b ∧ befI a b = false)
    ∨ (a ≤ 1099511627776 ∧ b ≠ 2305843009213693952 ∧ b ≤ 1099511627776 ∧ a < b ∧ befI a b = true) ∨ (a ≤ 1099511627776 ∧ b ≠ 2305843009213693952 ∧ b ≤ 1099511627776 ∧ ¬ a < b ∧ befI a b = false) := by
  unfold befI
  by_cases h : a ≤ 1099511627776
  · by_cases h2 : b = 2305843009213693952
    · exact .inr (.inl ⟨h, h2, decide_eq_true ⟨h, .inl h2⟩⟩)
    · by_cases h3 : b ≤ 1099511627776
      · by_cases h4 : a < b
        · exact .inr (.inr (.inr (.inl ⟨h, h2, h3, h4, decide_eq_true ⟨h, .inr ⟨h3, h4⟩⟩⟩)))
        · exact .inr (.inr (.inr (.inr ⟨h, h2, h3, h4, decide_eq_false (by omega)⟩)))
      · exact .inr (.inr (.inl ⟨h, h2, by omega, decide_eq_false (by omega)⟩))
  · exact .inl ⟨by omega, decide_eq_false (by omega)⟩
def ofW (k n : Int) : Int := if k = 1 then timeW n else if k = 2 then txnW n else if k = 3 ∧ n = 0 then 2305843009213693952 else 0
def ofB (k n : Int) : Bool := if k = 1 then timeB n else if k = 2 then txnB n else decide (k = 3 ∧ n = 0)
theorem ofW_1 (n : Int) : ofW 1 n = timeW n := rfl
theorem ofB_1 (n : Int) : ofB 1 n = timeB n := rfl
theorem ofW_2 (n : Int) : ofW 2 n = txnW n := rfl
theorem ofB_2 (n : Int) : ofB 2 n = txnB n := rfl
theorem ofW_3 : ofW 3 0 = 2305843009213693952 := rfl
theorem ofB_3 : ofB 3 0 = true := rfl
theorem ofW_3n (n : Int) (h : ¬ n = 0) : ofW 3 n = 0 := by unfold ofW; rw [if_neg (by decide), if_neg (by decide), if_neg (fun x => h x.2)]
theorem ofB_3n (n : Int) (h : ¬ n = 0) : ofB 3 n = false := by unfold ofB; rw [if_neg (by decide), if_neg (by decide)]; exact decide_eq_false (fun x => h x.2)
theorem ofW_n (k n : Int) (h1 : ¬ k = 1) (h2 : ¬ k = 2) (h3 : ¬ k = 3) : ofW k n = 0 := by unfold ofW; rw [if_neg h1, if_neg h2, if_neg (fun x => h3 x.1)]
theorem ofB_n (k n : Int) (h1 : ¬ k = 1) (h2 : ¬ k = 2) (h3 : ¬ k = 3) : ofB k n = false := by unfold ofB; rw [if_neg h1, if_neg h2]; exact decide_eq_false (fun x => h3 x.1)
theorem bef_rd (a b : Int) : befI a b = ((rdK a == 1) && ((rdK b == 3) || ((rdK b == 1) && decide (a < b)))) := by
  rcases rd_cases a with ⟨h, hk, hn⟩ | ⟨h, hk, hn⟩ | ⟨h, h', hk, hn⟩ | ⟨h, h2, h3, hk, hn⟩ <;> rw [hk] <;>
  rcases rd_cases b with ⟨g, gk, gn⟩ | ⟨g, gk, gn⟩ | ⟨g, g', gk, gn⟩ | ⟨g, g2, g3, gk, gn⟩ <;> rw [gk] <;> unfold befI <;> rw [Bool.eq_iff_iff] <;> simp <;> omega
theorem link_facts (s t : Int) (s0 : 0 ≤ s) (s1 : s ≤ 65535) (t0 : 0 ≤ t) (t1 : t ≤ 65535) : ∃ l, linkI s t = l ∧ 1 ≤ l ∧ l ≤ 8589934592 ∧ uslot l = s ∧ utag l = t ∧ mkd l = false ∧ clearI l = l := by
  refine ⟨_, rfl, ?_, ?_, ?_, ?_, ?_, ?_⟩ <;> unfold linkI
  · omega
  · omega
  · unfold uslot; omega
  · unfold utag; omega
  · unfold mkd; exact decide_eq_false (by omega)
  · unfold clearI; rw [if_neg (by omega)]
theorem mark_facts (l : Int) (l0 : 1 ≤ l) (l1 : l ≤ 8589934592) : ∃ m, markI l = m ∧ 0 ≤ m ∧ m ≤ 18446744073709551615 ∧ uslot m = uslot l ∧ utag m = utag l ∧ mkd m = true ∧ markI m = m ∧ clearI m = l ∧ (m == l) = false := by
  have e : markI l = l + 1099511627776 := by unfold markI; rw [if_neg (by omega)]
  refine ⟨_, e, ?_, ?_, ?_, ?_, ?_, ?_, ?_, ?_⟩
  · omega
  · omega
  · unfold uslot; omega
  · unfold utag; omega
  · unfold mkd; exact decide_eq_true (by omega)
  · unfold markI; rw [if_pos (by omega)]
  · unfold clearI; rw [if_pos (by omega)]; omega
  · rw [beq_eq_false_iff_ne]; omega
theorem clear_mark (a : Int) : clearI (markI a) = clearI a := by unfold clearI markI; (repeat' split) <;> omega
theorem mark_clear (a : Int) : markI (clearI a) = markI a := by unfold clearI markI; (repeat' split) <;> omega
theorem mark_or_clear (a : Int) : (clearI a == a) = !(markI a == a) := by
  unfold clearI markI; split
  · simp; omega
  · simp; omega
theorem ofW_bd (k n : Int) (n0 : 0 ≤ n) (n1 : n ≤ 18446744073709551615) : 0 ≤ ofW k n ∧ ofW k n ≤ 18446744073709551615 := by
  unfold ofW timeW txnW
  (repeat' split) <;> omega
theorem rd_of (k n : Int) (n0 : 0 ≤ n) (n1 : n ≤ 18446744073709551615) (h : ofB k n = true) : rdK (ofW k n) = k ∧ rdN (ofW k n) = n := by
  by_cases h1 : k = 1
  · subst h1
    rw [ofB_1] at h
    have hn : n ≤ 1099511627776 := of_decide_eq_true h
    rw [ofW_1, timeW_yes n hn]
    unfold rdK rdN
    exact ⟨if_pos hn, if_pos hn⟩
  · by_cases h2 : k = 2
    · subst h2
      rw [ofB_2] at h
      have hn : 1 ≤ n ∧ n ≤ 65535 := of_decide_eq_true h
      rw [ofW_2]
      unfold txnW; rw [if_pos hn]
      unfold rdK rdN
      exact ⟨by rw [if_neg (by omega), if_neg (by omega), if_pos (by omega)], by rw [if_neg (by omega), if_pos (by omega)]; omega⟩
    · unfold ofB at h
      rw [if_neg h1, if_neg h2] at h
      obtain ⟨rfl, rfl⟩ : k = 3 ∧ n = 0 := of_decide_eq_true h
      exact ⟨by decide, by decide⟩
theorem of_rd (a : Int) : (ofB (rdK a) (rdN a) = true ∧ ofW (rdK a) (rdN a) = a ∧ (rdK a = 1 ∨ rdK a = 2 ∨ rdK a = 3)) ∨ (ofB (rdK a) (rdN a) = false ∧ rdK a = 0 ∧ rdN a = 0) := by
  rcases rd_cases a with ⟨h, hk, hn⟩ | ⟨h, hk, hn⟩ | ⟨h, h', hk, hn⟩ | ⟨h, h2, h3, hk, hn⟩
  · left; rw [hk, hn]; exact ⟨decide_eq_true h, timeW_yes a h, .inl rfl⟩
  · left; rw [hk, hn, h]; exact ⟨rfl, rfl, .inr (.inr rfl)⟩
  · left; rw [hk, hn]
    refine ⟨decide_eq_true (by omega), ?_, .inr (.inl rfl)⟩
    rw [ofW_2]; unfold txnW; rw [if_pos (by omega)]; omega
  · right; rw [hk, hn]; exact ⟨by decide, rfl, rfl⟩
theorem rd_bd (a : Int) (a0 : 0 ≤ a) (a1 : a ≤ 18446744073709551615) : -9223372036854775808 ≤ rdK a ∧ rdK a ≤ 9223372036854775807 ∧ 0 ≤ rdN a ∧ rdN a ≤ 18446744073709551615 := by
  unfold rdK rdN
  refine ⟨?_, ?_, ?_, ?_⟩ <;> (repeat' split) <;> omega
end Go.Proofs.YtalkfnblnlcklaaDoor
