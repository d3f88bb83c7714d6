/- What item.Key, sum.Hash and the document's own Key and Hash do when called: for any item, any bytes. Conditions: the kinds' own bounds. -/
import Derived.Test.YtodhljiboakjnaaGreatZi
import Derived.Test.YtodhljiboakjnaaGreatZh
import Derived.Test.YtodhljiboakjnaaGreatZa
import Derived.Test.YtodhljiboakjnaaGreatZb
import Derived.Deep.RegionHeldLaw
import Derived.Laws.Bits64b
import Derived.Laws.Bits64
import Derived.Test.YtodhljiboakjnaaGreatZc
import Derived.Test.YtodhljiboakjnaaGreatZp
import Derived.Deep.Heap
import Derived.Laws.NewBlocks
import Derived.Tactics
import Derived.Tactics2
namespace Go.Proofs.YtodhljiboakjnaaGreat.Clep
open Go.RowKit
set_option linter.unusedVariables false

/-- One byte laid over a hash. -/
def lay (h : Nat) (z : Nat) : Nat := 1099511628211 * (h ^^^ z) % 18446744073709551616
/-- A hash over a text. -/
def hs : List Int → Nat → Nat
  | [], h => h
  | z :: r, h => hs r (lay h z.toNat)
def fnv (zs : List Int) : Nat := hs zs 14695981039346656037
theorem lay_lt (h z : Nat) : lay h z < 18446744073709551616 := Nat.mod_lt _ (by decide)
theorem hs_lt : ∀ (zs : List Int) (h : Nat), h < 18446744073709551616 → hs zs h < 18446744073709551616
  | [], h, hh => hh
  | z :: r, h, hh => hs_lt r _ (lay_lt _ _)
theorem fnv_lt (zs : List Int) : fnv zs < 18446744073709551616 := hs_lt zs _ (by decide)
theorem lay_bits (h : Nat) (z : Int) (hh : h < 18446744073709551616) (hz : 0 ≤ z ∧ z < 256) : bits BinOp.xor IntKind.u64 (h : Int) z * 1099511628211 % 18446744073709551616 = ((lay h z.toNat : Nat) : Int) := by
  obtain ⟨Z, rfl⟩ := Int.eq_ofNat_of_zero_le hz.1
  rw [bits_xor_u64_nat _ _ hh (by omega)]
  unfold lay
  simp only [Int.toNat_natCast]
  omega
theorem lay_any (h : Nat) (z : Int) (w : World) (hh : h < 18446744073709551616) (hz : 0 ≤ z ∧ z < 256) :
    Calls Tryz.prog 95 #[.int .u64 h, .int .u8 z] w fun e w' => e = .returned (.int .u64 (lay h z.toNat : Nat)) ∧ w' = w := by
  have HB := hide (lay_bits h z hh hz)
  go_enter Tryz.func95, Tryz.ntmps95
  go_wp2
  go_ret
  exact ⟨by rw [← HB.out]; rfl, rfl⟩
theorem hs_at (zs : List Int) (k h : Nat) (hk : k < zs.length) : hs (zs.drop k) h = hs (zs.drop (k + 1)) (lay h (zs.getD k 0).toNat) := by
  rw [drop_get zs k hk]; rfl
theorem hash_any (ao : Option Addr) (len cap : Nat) (zs : List Int) (w : World) (hm : len ≤ 9223372036854775807) (h : Bs w ao len cap zs) :
    Calls Tryz.prog 69 #[.slice ao len cap] w fun e w' => e = .returned (.int .u64 (fnv zs : Nat)) ∧ w' = w := by
  have hz := hide h.2.2.1
  have hl := hide h.1
  have hc4 := hide h.2.2.2
  clear h
  go_enter Tryz.func69, Tryz.ntmps69
  go_wp2
  go_loop [3, 8] (fun v i => ∃ k C : Nat, k ≤ len ∧ i = .int .i64 k ∧ v = .int .u64 C ∧ C < 18446744073709551616 ∧ Hid (hs (zs.drop k) C = fnv zs)) (fun _ i => len - (intOf i).toNat)
  case atStart => exact ⟨0, 14695981039346656037, by omega, rfl, rfl, by omega, hide (by simp [fnv])⟩
  case round =>
    obtain ⟨k, C, hk, rfl, rfl, hC, hT⟩ := hrel
    by_cases hlt : k < len
    · obtain ⟨b, off, rfl, hcell⟩ := hc4.out (by omega)
      have hck := hcell k hlt
      have hzk := hz.out k
      have HT := hide (show hs (zs.drop (k + 1)) (lay C (zs.getD k 0).toNat) = fnv zs by rw [← hT.out]; exact (hs_at zs k C (by rw [hl.out]; exact hlt)).symm)
      generalize zs.getD k 0 = z at *
      clear hcell
      go_wp2_with fail
      refine (lay_any C z _ hC hzk).mono ?_
      rintro e w1 ⟨rfl, rfl⟩
      go_wp2
      go_round
      case rel => exact ⟨k + 1, _, by omega, by go_num, rfl, lay_lt _ _, HT⟩
      case measure => simp [intOf]; omega
    · have h8 : k = len := by omega
      subst h8
      have hT' := hide (show C = fnv zs from by have := hT.out; rwa [List.drop_eq_nil_of_le (by rw [hl.out]; exact Nat.le_refl _)] at this)
      go_wp2
      go_ret
      exact ⟨by rw [← hT'.out]; rfl, rfl⟩

/-- The bytes of an item's key. -/
def kb (S K T : Int) : List Int := [S % 256, K % 256] ++ e8 T 8
theorem kb_range (S K T : Int) : ∀ z ∈ kb S K T, 0 ≤ z ∧ z < 256 := by
  intro z hz
  unfold kb at hz
  rcases List.mem_append.1 hz with h | h
  · simp only [List.mem_cons, List.not_mem_nil, or_false] at h; omega
  · exact e8_range T z h
theorem kb_len (S K T : Int) : (kb S K T).length = 10 := by simp [kb, e8_len]

end Go.Proofs.YtodhljiboakjnaaGreat.Clep

/- Plain mathematics of a filter's bits: all bits as one number; its words, its bytes, how many of its bits are set; the bits of a key. No conditions. -/
namespace Go.Proofs.YtodhljiboakjnaaGreat.Clep
set_option linter.unusedVariables false
set_option maxRecDepth 10000

/-- The j-th word of all bits. -/
def wd (N j : Nat) : Nat := N / 2 ^ (64 * j) % 18446744073709551616
/-- The i-th byte of all bits. -/
def by8 (N i : Nat) : Nat := N / 2 ^ (8 * i) % 256
theorem wd_bit (N j t : Nat) : (wd N j).testBit t = (decide (t < 64) && N.testBit (64 * j + t)) := by
  unfold wd
  rw [show (18446744073709551616 : Nat) = 2 ^ 64 from rfl, Nat.testBit_mod_two_pow, Nat.testBit_div_two_pow]
  rw [Nat.add_comm]
theorem by8_bit (N j t : Nat) : (by8 N j).testBit t = (decide (t < 8) && N.testBit (8 * j + t)) := by
  unfold by8
  rw [show (256 : Nat) = 2 ^ 8 from rfl, Nat.testBit_mod_two_pow, Nat.testBit_div_two_pow]
  rw [Nat.add_comm]
theorem wd_lt (N j : Nat) : wd N j < 18446744073709551616 := Nat.mod_lt _ (by decide)
theorem by8_lt (N j : Nat) : by8 N j < 256 := Nat.mod_lt _ (by decide)
theorem wd_zero (j : Nat) : wd 0 j = 0 := by simp [wd]
theorem by8_zero (j : Nat) : by8 0 j = 0 := by simp [by8]
theorem wd_or (N p j : Nat) : wd (N ||| 2 ^ p) j = if j = p / 64 then wd N j ||| 2 ^ (p % 64) else wd N j := by
  apply Nat.eq_of_testBit_eq
  intro t
  split
  · rename_i h
    rw [wd_bit, Nat.testBit_or, Nat.testBit_or, wd_bit, Nat.testBit_two_pow, Nat.testBit_two_pow]
    by_cases ht : t < 64
    · have : decide (p = 64 * j + t) = decide (p % 64 = t) := decide_eq_decide.2 (by omega)
      simp [ht, this]
    · have : ¬ p % 64 = t := by omega
      simp [ht, this]
  · rename_i h
    rw [wd_bit, wd_bit, Nat.testBit_or, Nat.testBit_two_pow]
    by_cases ht : t < 64
    · have : ¬ p = 64 * j + t := by omega
      simp [this]
    · simp [ht]
theorem by8_or (N p j : Nat) : by8 (N ||| 2 ^ p) j = if j = p / 8 then by8 N j ||| 2 ^ (p % 8) else by8 N j := by
  apply Nat.eq_of_testBit_eq
  intro t
  split
  · rename_i h
    rw [by8_bit, Nat.testBit_or, Nat.testBit_or, by8_bit, Nat.testBit_two_pow, Nat.testBit_two_pow]
    by_cases ht : t < 8
    · have : decide (p = 8 * j + t) = decide (p % 8 = t) := decide_eq_decide.2 (by omega)
      simp [ht, this]
    · have : ¬ p % 8 = t := by omega
      simp [ht, this]
  · rename_i h
    rw [by8_bit, by8_bit, Nat.testBit_or, Nat.testBit_two_pow]
    by_cases ht : t < 8
    · have : ¬ p = 8 * j + t := by omega
      simp [this]
    · simp [ht]
theorem and_pow (a s : Nat) : a &&& 2 ^ s = if a.testBit s then 2 ^ s else 0 := by
  apply Nat.eq_of_testBit_eq
  intro t
  rw [Nat.testBit_and, Nat.testBit_two_pow]
  by_cases h : s = t
  · subst h
    by_cases hb : a.testBit s <;> simp [hb]
  · by_cases hb : a.testBit s <;> simp [h, hb]
theorem wd_test (N p : Nat) : wd N (p / 64) &&& 2 ^ (p % 64) = if N.testBit p then 2 ^ (p % 64) else 0 := by
  rw [and_pow, wd_bit, show 64 * (p / 64) + p % 64 = p from Nat.div_add_mod p 64]
  simp [Nat.mod_lt p (show 0 < 64 by decide)]
theorem by8_test (N p : Nat) : by8 N (p / 8) / 2 ^ (p % 8) % 2 = (N.testBit p).toNat := by
  have h := by8_bit N (p / 8) (p % 8)
  rw [Nat.div_add_mod p 8] at h
  simp only [Nat.mod_lt p (show 0 < 8 by decide), decide_true, Bool.true_and] at h
  rw [← h, Nat.testBit_eq_decide_div_mod_eq]
  have : by8 N (p / 8) / 2 ^ (p % 8) % 2 < 2 := Nat.mod_lt _ (by decide)
  by_cases h1 : by8 N (p / 8) / 2 ^ (p % 8) % 2 = 1
  · simp [h1]
  · simp [h1]; omega
theorem by8_wd (N i : Nat) : wd N (i / 8) / 2 ^ (i % 8 * 8) % 256 = by8 N i := by
  apply Nat.eq_of_testBit_eq
  intro t
  rw [show (256 : Nat) = 2 ^ 8 from rfl, Nat.testBit_mod_two_pow, Nat.testBit_div_two_pow, wd_bit, by8_bit]
  by_cases ht : t < 8
  · rw [show 64 * (i / 8) + (t + i % 8 * 8) = 8 * i + t from by omega]
    have : t + i % 8 * 8 < 64 := by omega
    simp [ht, this]
  · simp [ht]
/-- One byte more, laid at its place. -/
theorem wd_lay (N c i j : Nat) (hc : c < 256) : wd (N ||| c * 2 ^ (8 * i)) j = if j = i / 8 then wd N j ||| c * 2 ^ (i % 8 * 8) else wd N j := by
  have hb : ∀ q, (c * 2 ^ (8 * i)).testBit q = (decide (8 * i ≤ q) && c.testBit (q - 8 * i)) := fun q => by rw [Nat.mul_comm, Nat.testBit_two_pow_mul]
  have hb2 : ∀ q, (c * 2 ^ (i % 8 * 8)).testBit q = (decide (i % 8 * 8 ≤ q) && c.testBit (q - i % 8 * 8)) := fun q => by rw [Nat.mul_comm, Nat.testBit_two_pow_mul]
  have hbig : ∀ q, 8 ≤ q → c.testBit q = false := fun q hq => Nat.testBit_lt_two_pow (Nat.lt_of_lt_of_le hc (Nat.pow_le_pow_right (n := 2) (by decide) hq))
  apply Nat.eq_of_testBit_eq
  intro t
  split
  · rename_i h
    rw [wd_bit, Nat.testBit_or, Nat.testBit_or, wd_bit, hb, hb2]
    by_cases ht : t < 64
    · have h1 : decide (8 * i ≤ 64 * j + t) = decide (i % 8 * 8 ≤ t) := decide_eq_decide.2 (by omega)
      by_cases h2 : i % 8 * 8 ≤ t
      · rw [show 64 * j + t - 8 * i = t - i % 8 * 8 from by omega]
        simp [ht, h1]
      · simp [ht, h1, h2]
    · have := hbig (t - i % 8 * 8) (by omega)
      simp [ht, this]
  · rename_i h
    rw [wd_bit, wd_bit, Nat.testBit_or, hb]
    by_cases ht : t < 64
    · by_cases h2 : 8 * i ≤ 64 * j + t
      · have := hbig (64 * j + t - 8 * i) (by omega)
        simp [this]
      · simp [h2]
    · simp [ht]

/-- How many of the lowest n bits are set. -/
def pc : Nat → Nat → Nat
  | 0, _ => 0
  | n + 1, N => pc n N + (N.testBit n).toNat
theorem pc_congr : ∀ (n a b : Nat), (∀ t, t < n → a.testBit t = b.testBit t) → pc n a = pc n b
  | 0, _, _, _ => rfl
  | n + 1, a, b, h => by
    simp only [pc]
    rw [pc_congr n a b fun t ht => h t (by omega), h n (by omega)]
theorem pc_add (m N : Nat) : ∀ n, pc (m + n) N = pc m N + pc n (N / 2 ^ m)
  | 0 => rfl
  | n + 1 => by
    show pc (m + n) N + (N.testBit (m + n)).toNat = _
    rw [pc_add m N n]
    simp only [pc]
    rw [Nat.testBit_div_two_pow, Nat.add_comm n m]
    omega
theorem pc_words (N m : Nat) : pc (64 * (m + 1)) N = pc (64 * m) N + pc 64 (wd N m) := by
  rw [Nat.mul_add, Nat.mul_one, pc_add]
  congr 1
  refine pc_congr 64 _ _ fun t ht => ?_
  rw [wd_bit, Nat.testBit_div_two_pow, Nat.add_comm]
  simp [ht]
theorem pc_bytes (N m : Nat) : pc (8 * (m + 1)) N = pc (8 * m) N + pc 8 (by8 N m) := by
  rw [Nat.mul_add, Nat.mul_one, pc_add]
  congr 1
  refine pc_congr 8 _ _ fun t ht => ?_
  rw [by8_bit, Nat.testBit_div_two_pow, Nat.add_comm]
  simp [ht]
theorem pc_le : ∀ (n N : Nat), pc n N ≤ n
  | 0, _ => Nat.le_refl _
  | n + 1, N => by
    have := pc_le n N
    simp only [pc]
    have : (N.testBit n).toNat ≤ 1 := Bool.toNat_le _
    omega
theorem pc_zero : ∀ n, pc n 0 = 0
  | 0 => rfl
  | n + 1 => by simp [pc, pc_zero n]
theorem pc_big (N n : Nat) (h : N < 2 ^ n) : ∀ m, n ≤ m → pc m N = pc n N
  | m, hm => by
    rcases Nat.eq_or_lt_of_le hm with e | e
    · rw [e]
    · match m, e with
      | m + 1, e =>
        simp only [pc]
        rw [Nat.testBit_lt_two_pow (Nat.lt_of_lt_of_le h (Nat.pow_le_pow_right (by decide) (by omega))), pc_big N n h m (by omega)]
        rfl
theorem pc_or (N p : Nat) : ∀ n, pc n (N ||| 2 ^ p) = pc n N + (if p < n ∧ N.testBit p = false then 1 else 0)
  | 0 => by simp [pc]
  | n + 1 => by
    simp only [pc]
    rw [pc_or N p n, Nat.testBit_or, Nat.testBit_two_pow]
    by_cases hp : p = n
    · subst hp
      by_cases hb : N.testBit p = true
      · simp [hb]
      · simp [hb]
    · by_cases hlt : p < n
      · by_cases hb : N.testBit p = true
        · simp [hb, hp]
        · simp only [hb, hp, hlt, show p < n + 1 by omega, decide_false, Bool.or_false]; simp; omega
      · simp [hp, hlt, show ¬ p < n + 1 by omega]

/-- The i-th bit of a key whose hash is h, of sz bytes. -/
def bpl (h i sz : Nat) : Nat := (h % 4294967296 + i * (h / 4294967296)) % 4294967296 % (sz * 8)
theorem bpl_lt (h i sz : Nat) (hs : 0 < sz) : bpl h i sz < 8 * sz := by
  have : bpl h i sz < sz * 8 := Nat.mod_lt _ (by omega)
  omega
/-- The first k bits of a key are set. -/
def addk (h sz : Nat) : Nat → Nat → Nat
  | 0, N => N
  | k + 1, N => addk h sz k N ||| 2 ^ bpl h k sz
/-- Are they all set? -/
def hask (h sz : Nat) : Nat → Nat → Bool
  | 0, _ => true
  | k + 1, N => hask h sz k N && N.testBit (bpl h k sz)
theorem hask_iff (h sz N : Nat) : ∀ k, hask h sz k N = true ↔ ∀ i, i < k → N.testBit (bpl h i sz) = true
  | 0 => by simp [hask]
  | k + 1 => by
    simp only [hask, Bool.and_eq_true, hask_iff h sz N k]
    constructor
    · rintro ⟨h1, h2⟩ i hi
      rcases Nat.lt_or_ge i k with h3 | h3
      · exact h1 i h3
      · rw [show i = k by omega]; exact h2
    · intro h1
      exact ⟨fun i hi => h1 i (by omega), h1 k (by omega)⟩
theorem addk_bit (h sz N p : Nat) : ∀ k, (addk h sz k N).testBit p = true ↔ N.testBit p = true ∨ ∃ i, i < k ∧ bpl h i sz = p
  | 0 => by simp [addk]
  | k + 1 => by
    simp only [addk, Nat.testBit_or, Bool.or_eq_true, addk_bit h sz N p k, Nat.testBit_two_pow, decide_eq_true_eq]
    constructor
    · rintro ((h1 | ⟨i, hi, h1⟩) | h1)
      · exact .inl h1
      · exact .inr ⟨i, by omega, h1⟩
      · exact .inr ⟨k, by omega, h1⟩
    · rintro (h1 | ⟨i, hi, h1⟩)
      · exact .inl (.inl h1)
      · rcases Nat.lt_or_ge i k with h3 | h3
        · exact .inl (.inr ⟨i, h3, h1⟩)
        · rw [show i = k by omega] at h1; exact .inr h1
theorem addk_lt (h sz N : Nat) (hs : 0 < sz) (hN : N < 2 ^ (8 * sz)) : ∀ k, addk h sz k N < 2 ^ (8 * sz)
  | 0 => hN
  | k + 1 => by
    simp only [addk]
    exact Nat.or_lt_two_pow (addk_lt h sz N hs hN k) (Nat.pow_lt_pow_right (by decide) (bpl_lt h k sz hs))
theorem hask_add (h sz N k : Nat) : hask h sz k (addk h sz k N) = true := (hask_iff _ _ _ _).2 fun i hi => (addk_bit _ _ _ _ _).2 (.inr ⟨i, hi, rfl⟩)
theorem hask_mono {h sz k N M : Nat} (hm : ∀ p, N.testBit p = true → M.testBit p = true) (hh : hask h sz k N = true) : hask h sz k M = true :=
  (hask_iff _ _ _ _).2 fun i hi => hm _ ((hask_iff _ _ _ _).1 hh i hi)
theorem addk_more (h sz N k : Nat) : ∀ p, N.testBit p = true → (addk h sz k N).testBit p = true := fun p hp => (addk_bit _ _ _ _ _).2 (.inl hp)
theorem bit_eq {a b : Nat} (h : ∀ p, a.testBit p = true ↔ b.testBit p = true) : a = b :=
  Nat.eq_of_testBit_eq fun p => Bool.eq_iff_iff.2 (h p)
theorem addk_same {h sz k N : Nat} (hh : hask h sz k N = true) : addk h sz k N = N := by
  refine bit_eq fun p => ?_
  rw [addk_bit]
  constructor
  · rintro (h1 | ⟨i, hi, rfl⟩)
    · exact h1
    · exact (hask_iff _ _ _ _).1 hh i hi
  · exact .inl
theorem pc_addk (h sz N : Nat) (hs : 0 < sz) : ∀ k, pc (8 * sz) N ≤ pc (8 * sz) (addk h sz k N) ∧ pc (8 * sz) (addk h sz k N) ≤ pc (8 * sz) N + k ∧ (hask h sz k N = false → pc (8 * sz) N < pc (8 * sz) (addk h sz k N))
  | 0 => by simp [addk, hask]
  | k + 1 => by
    obtain ⟨h1, h2, h3⟩ := pc_addk h sz N hs k
    simp only [addk, pc_or, bpl_lt h k sz hs, true_and]
    refine ⟨by omega, by split <;> omega, fun hh => ?_⟩
    simp only [hask, Bool.and_eq_false_iff] at hh
    rcases hh with hh | hh
    · have := h3 hh; omega
    · by_cases h4 : (addk h sz k N).testBit (bpl h k sz) = false
      · rw [if_pos h4]; omega
      · have h5 : hask h sz k N = false := by
          rcases hx : hask h sz k N with _ | _
          · rfl
          · rw [addk_same hx] at h4; exact absurd hh h4
        have := h3 h5; omega
theorem hask_zero (h sz k : Nat) (hk : 0 < k) : hask h sz k 0 = false := by
  rcases hx : hask h sz k 0 with _ | _
  · rfl
  · have := (hask_iff _ _ _ _).1 hx 0 hk; simp at this

end Go.Proofs.YtodhljiboakjnaaGreat.Clep

/- What the walks over filters share: blocks held whole, what of the memory may have changed, sum.Hash and the document's own Hash when called. Conditions: the kinds' own bounds. -/
namespace Go.Proofs.YtodhljiboakjnaaGreat.Clep
open Go.RowKit
set_option linter.unusedVariables false
set_option maxRecDepth 10000

theorem refhash_any (s : ByteArray) (zs : List Int) (w : World) (hm : s.size ≤ 9223372036854775807) (hs : Sz s zs) (hr : ∀ z ∈ zs, 0 ≤ z ∧ z < 256) :
    Calls Tryz.prog 84 #[.string s] w fun e w' => e = .returned (.int .u64 (fnv zs : Nat)) ∧ w' = w := by
  have hz := hide (range_of hr)
  have HS := hide hs
  clear hs hr
  go_enter Tryz.func84, Tryz.ntmps84
  go_wp2
  go_loop [3, 4] (fun v i => ∃ k C : Nat, k ≤ s.size ∧ i = .int .i64 k ∧ v = .int .u64 C ∧ C < 18446744073709551616 ∧ Hid (hs (zs.drop k) C = fnv zs)) (fun _ i => s.size - (intOf i).toNat)
  case atStart => exact ⟨0, 14695981039346656037, by omega, rfl, rfl, by omega, hide (by simp [fnv])⟩
  case round =>
    obtain ⟨k, C, hk, rfl, rfl, hC, hT⟩ := hrel
    by_cases hlk : k < s.size
    · have hck := HS.out.2 k hlk
      have hzk := hz.out k
      have HT := hide (show hs (zs.drop (k + 1)) (lay C (zs.getD k 0).toNat) = fnv zs by rw [← hT.out]; exact (hs_at zs k C (by rw [← HS.out.1]; exact hlk)).symm)
      have HB := hide (lay_bits C (zs.getD k 0) hC hzk)
      generalize hzz : zs.getD k 0 = z at *
      clear hzz
      go_wp2
      go_round
      case rel => exact ⟨k + 1, lay C z.toNat, by omega, by go_num, by rw [← HB.out]; rfl, lay_lt _ _, HT⟩
      case measure => simp [intOf]; omega
    · have h8 : k = s.size := by omega
      subst h8
      have hT' := hide (show C = fnv zs from by have := hT.out; rwa [List.drop_eq_nil_of_le (by rw [← HS.out.1]; exact Nat.le_refl _)] at this)
      go_wp2
      go_ret
      exact ⟨by rw [← hT'.out]; rfl, rfl⟩

end Go.Proofs.YtodhljiboakjnaaGreat.Clep

/- What math/bits.OnesCount64 does when called: it answers how many bits are set. No conditions but the kind's bounds. -/
namespace Go.Proofs.YtodhljiboakjnaaGreat.Clep
open Go.RowKit
set_option linter.unusedVariables false
set_option maxRecDepth 10000

/-- A mask of n bytes, all the same. -/
def mk (m : Nat) : Nat → Nat
  | 0 => 0
  | n + 1 => 256 * mk m n + m
theorem and_cut (h l a b : Nat) (hl : l < 256) (hb : b < 256) : (256 * h + l) &&& (256 * a + b) = 256 * (h &&& a) + (l &&& b) := by
  have hlb : l &&& b < 2 ^ 8 := Nat.lt_of_le_of_lt Nat.and_le_left hl
  apply Nat.eq_of_testBit_eq
  intro t
  rw [Nat.testBit_and, show (256 : Nat) = 2 ^ 8 from rfl, Nat.testBit_two_pow_mul_add _ hl, Nat.testBit_two_pow_mul_add _ hb, Nat.testBit_two_pow_mul_add _ hlb]
  split <;> simp [Nat.testBit_and]
def s1 (n x : Nat) : Nat := (x / 2 &&& mk 85 n) + (x &&& mk 85 n)
def s2 (n x : Nat) : Nat := (x / 4 &&& mk 51 n) + (x &&& mk 51 n)
def s3 (n x : Nat) : Nat := (x / 16 + x) &&& mk 15 n
def c1 (l : Nat) : Nat := (l / 2 &&& 85) + (l &&& 85)
def c2 (l : Nat) : Nat := (l / 4 &&& 51) + (l &&& 51)
theorem a1 : ∀ (b : Fin 2) (l : Fin 256), (128 * b.val + l.val / 2) &&& 85 = l.val / 2 &&& 85 := by decide +kernel
theorem a2 : ∀ (b : Fin 4) (l : Fin 256), (64 * b.val + l.val / 4) &&& 51 = l.val / 4 &&& 51 := by decide +kernel
theorem a3 : ∀ (b : Fin 5) (l : Fin 256), l.val % 16 ≤ 4 → l.val / 16 ≤ 4 → 16 * b.val + l.val / 16 + l.val < 256 ∧ (16 * b.val + l.val / 16 + l.val) &&& 15 = l.val / 16 + l.val % 16 := by decide +kernel
theorem a4 : ∀ l : Fin 256, c1 l.val < 256 ∧ c2 (c1 l.val) < 256 ∧ c2 (c1 l.val) % 16 ≤ 4 ∧ c2 (c1 l.val) / 16 ≤ 4 ∧ c2 (c1 l.val) / 16 + c2 (c1 l.val) % 16 = pc 8 l.val := by decide +kernel
theorem s1_cut (n h l : Nat) (hl : l < 256) : s1 (n + 1) (256 * h + l) = 256 * s1 n h + c1 l := by
  simp only [s1, c1, mk]
  rw [show (256 * h + l) / 2 = 256 * (h / 2) + (128 * (h % 2) + l / 2) by omega, and_cut _ _ _ _ (by omega) (by decide), and_cut _ _ _ _ hl (by decide)]
  have := a1 ⟨h % 2, Nat.mod_lt _ (by decide)⟩ ⟨l, hl⟩
  simp only at this
  rw [this]
  omega
theorem s2_cut (n h l : Nat) (hl : l < 256) : s2 (n + 1) (256 * h + l) = 256 * s2 n h + c2 l := by
  simp only [s2, c2, mk]
  rw [show (256 * h + l) / 4 = 256 * (h / 4) + (64 * (h % 4) + l / 4) by omega, and_cut _ _ _ _ (by omega) (by decide), and_cut _ _ _ _ hl (by decide)]
  have := a2 ⟨h % 4, Nat.mod_lt _ (by decide)⟩ ⟨l, hl⟩
  simp only at this
  rw [this]
  omega
/-- How many bits of each byte are set, as bytes. -/
def sp : Nat → Nat → Nat
  | 0, _ => 0
  | n + 1, x => 256 * sp n (x / 256) + pc 8 (x % 256)
theorem s12 (n x : Nat) : s2 (n + 1) (s1 (n + 1) x) = 256 * s2 n (s1 n (x / 256)) + c2 (c1 (x % 256)) := by
  have hx : x = 256 * (x / 256) + x % 256 := by omega
  conv => lhs; rw [hx]
  have := a4 ⟨x % 256, Nat.mod_lt _ (by decide)⟩
  rw [s1_cut _ _ _ (Nat.mod_lt _ (by decide)), s2_cut _ _ _ this.1]
theorem s12_low (n x : Nat) : s2 n (s1 n x) % 16 ≤ 4 := by
  cases n with
  | zero => simp [s2, s1, mk]
  | succ n =>
    have := a4 ⟨x % 256, Nat.mod_lt _ (by decide)⟩
    simp only at this
    rw [s12]
    omega
theorem s123 : ∀ (n x : Nat), s3 n (s2 n (s1 n x)) = sp n x
  | 0, x => by simp [s3, sp, mk]
  | n + 1, x => by
    have ih := s123 n (x / 256)
    have hlow := s12_low n (x / 256)
    rw [s12]
    obtain ⟨q1, q2, q3, q4, q5⟩ := a4 ⟨x % 256, Nat.mod_lt _ (by decide)⟩
    simp only at q1 q2 q3 q4 q5
    simp only [sp]
    rw [← ih]
    generalize s2 n (s1 n (x / 256)) = h at *
    rw [← q5]
    generalize c2 (c1 (x % 256)) = l at *
    obtain ⟨r1, r2⟩ := a3 ⟨h % 16, by omega⟩ ⟨l, q2⟩ q3 q4
    simp only at r1 r2
    unfold s3
    simp only [mk]
    rw [show (256 * h + l) / 16 + (256 * h + l) = 256 * (h / 16 + h) + (16 * (h % 16) + l / 16 + l) by omega, and_cut _ _ _ _ r1 (by decide), r2]
theorem pc_cut (x n : Nat) : pc (8 + n) x = pc 8 (x % 256) + pc n (x / 256) := by
  rw [pc_add, show (256 : Nat) = 2 ^ 8 from rfl]
  congr 1
  exact pc_congr 8 _ _ fun t ht => by rw [Nat.testBit_mod_two_pow]; simp [ht]
/-- What the last steps make of it. -/
def fin (y : Nat) : Nat :=
  let y1 := y + y / 256
  let y2 := y1 + y1 / 65536
  (y2 + y2 / 4294967296) % 128
theorem sp_parts (x : Nat) : ∃ p0 p1 p2 p3 p4 p5 p6 p7 : Nat, p0 ≤ 8 ∧ p1 ≤ 8 ∧ p2 ≤ 8 ∧ p3 ≤ 8 ∧ p4 ≤ 8 ∧ p5 ≤ 8 ∧ p6 ≤ 8 ∧ p7 ≤ 8 ∧ sp 8 x = 256 * (256 * (256 * (256 * (256 * (256 * (256 * (256 * 0 + p7) + p6) + p5) + p4) + p3) + p2) + p1) + p0 ∧ pc 64 x = p0 + (p1 + (p2 + (p3 + (p4 + (p5 + (p6 + (p7 + 0))))))) := by
  refine ⟨_, _, _, _, _, _, _, _, pc_le 8 _, pc_le 8 _, pc_le 8 _, pc_le 8 _, pc_le 8 _, pc_le 8 _, pc_le 8 _, pc_le 8 _, rfl, ?_⟩
  rw [show (64 : Nat) = 8 + (8 + (8 + (8 + (8 + (8 + (8 + (8 + 0))))))) from rfl]
  simp only [pc_cut]
  rfl
theorem ones_math (x : Nat) : fin (s3 8 (s2 8 (s1 8 x))) = pc 64 x ∧ s3 8 (s2 8 (s1 8 x)) < 1000000000000000000 := by
  rw [s123]
  obtain ⟨p0, p1, p2, p3, p4, p5, p6, p7, h0, h1, h2, h3, h4, h5, h6, h7, e, e2⟩ := sp_parts x
  rw [e, e2]
  unfold fin
  refine ⟨?_, by omega⟩
  rw [show (256 * (256 * (256 * (256 * (256 * (256 * (256 * (256 * 0 + p7) + p6) + p5) + p4) + p3) + p2) + p1) + p0) + (256 * (256 * (256 * (256 * (256 * (256 * (256 * (256 * 0 + p7) + p6) + p5) + p4) + p3) + p2) + p1) + p0) / 256 = 256 * (256 * (256 * (256 * (256 * (256 * (256 * p7 + (p6 + p7)) + (p5 + p6)) + (p4 + p5)) + (p3 + p4)) + (p2 + p3)) + (p1 + p2)) + (p0 + p1) by omega]
  simp only
  rw [show (256 * (256 * (256 * (256 * (256 * (256 * (256 * p7 + (p6 + p7)) + (p5 + p6)) + (p4 + p5)) + (p3 + p4)) + (p2 + p3)) + (p1 + p2)) + (p0 + p1)) + (256 * (256 * (256 * (256 * (256 * (256 * (256 * p7 + (p6 + p7)) + (p5 + p6)) + (p4 + p5)) + (p3 + p4)) + (p2 + p3)) + (p1 + p2)) + (p0 + p1)) / 65536 = 256 * (256 * (256 * (256 * (256 * (256 * (256 * p7 + (p6 + p7)) + (p5 + p6 + p7)) + (p4 + p5 + p6 + p7)) + (p3 + p4 + p5 + p6)) + (p2 + p3 + p4 + p5)) + (p1 + p2 + p3 + p4)) + (p0 + p1 + p2 + p3) by omega]
  rw [show (256 * (256 * (256 * (256 * (256 * (256 * (256 * p7 + (p6 + p7)) + (p5 + p6 + p7)) + (p4 + p5 + p6 + p7)) + (p3 + p4 + p5 + p6)) + (p2 + p3 + p4 + p5)) + (p1 + p2 + p3 + p4)) + (p0 + p1 + p2 + p3)) / 4294967296 = 256 * (256 * (256 * p7 + (p6 + p7)) + (p5 + p6 + p7)) + (p4 + p5 + p6 + p7) by omega]
  omega

end Go.Proofs.YtodhljiboakjnaaGreat.Clep

/- What math/bits.OnesCount64 does when called: it answers how many bits are set. No conditions but the kind's bounds. -/
namespace Go.Proofs.YtodhljiboakjnaaGreat.Clep
open Go.RowKit
set_option linter.unusedVariables false
set_option maxRecDepth 10000

theorem and_u64 (a b : Nat) (ha : a < 18446744073709551616) (hb : b < 18446744073709551616) : bits BinOp.and IntKind.u64 (a : Int) (b : Int) = ((a &&& b : Nat) : Int) := bits_and_u64_nat a b ha hb
theorem wrap_u64 (a : Nat) (ha : a < 18446744073709551616) : IntKind.u64.wrap (a : Int) = (a : Int) := by
  simp [IntKind.wrap, IntKind.bits, IntKind.signed]; omega
theorem wrap_to {z : Int} {a : Nat} (h : z = (a : Int)) (ha : a < 18446744073709551616) : IntKind.u64.wrap z = (a : Int) := by rw [h]; exact wrap_u64 a ha
theorem mk_max (a : Nat) (b : Nat) : a &&& b ≤ b := Nat.and_le_right
theorem ones_x1 (x : Nat) (hx : x < 18446744073709551616) : IntKind.u64.wrap (bits BinOp.and IntKind.u64 ((x : Int) / 2) 6148914691236517205 + bits BinOp.and IntKind.u64 (x : Int) 6148914691236517205) = ((s1 8 x : Nat) : Int) ∧ s1 8 x < 18446744073709551616 := by
  have e : mk 85 8 = 6148914691236517205 := rfl
  have h1 := mk_max (x / 2) (mk 85 8)
  have h2 := mk_max x (mk 85 8)
  have hl : s1 8 x < 18446744073709551616 := by unfold s1; rw [e] at *; omega
  refine ⟨?_, hl⟩
  have q1 := and_u64 (x / 2) 6148914691236517205 (by omega) (by decide)
  have q2 := and_u64 x 6148914691236517205 hx (by decide)
  refine wrap_to ?_ hl
  unfold s1
  rw [e]
  rw [show ((x : Int) / 2) = ((x / 2 : Nat) : Int) by omega, show (6148914691236517205 : Int) = ((6148914691236517205 : Nat) : Int) from rfl, q1, q2]
  omega
theorem ones_x2 (x : Nat) (hx : x < 18446744073709551616) : IntKind.u64.wrap (bits BinOp.and IntKind.u64 ((x : Int) / 4) 3689348814741910323 + bits BinOp.and IntKind.u64 (x : Int) 3689348814741910323) = ((s2 8 x : Nat) : Int) ∧ s2 8 x < 7378697629483820647 := by
  have e : mk 51 8 = 3689348814741910323 := rfl
  have h1 := mk_max (x / 4) (mk 51 8)
  have h2 := mk_max x (mk 51 8)
  have hl : s2 8 x < 7378697629483820647 := by unfold s2; rw [e] at *; omega
  refine ⟨?_, hl⟩
  have q1 := and_u64 (x / 4) 3689348814741910323 (by omega) (by decide)
  have q2 := and_u64 x 3689348814741910323 hx (by decide)
  refine wrap_to ?_ (by omega)
  unfold s2
  rw [e]
  rw [show ((x : Int) / 4) = ((x / 4 : Nat) : Int) by omega, show (3689348814741910323 : Int) = ((3689348814741910323 : Nat) : Int) from rfl, q1, q2]
  omega
theorem ones_x3 (x : Nat) (hx : x < 7378697629483820647) : bits BinOp.and IntKind.u64 (IntKind.u64.wrap ((x : Int) / 16 + (x : Int))) 1085102592571150095 = ((s3 8 x : Nat) : Int) := by
  have e : mk 15 8 = 1085102592571150095 := rfl
  have q1 := and_u64 (x / 16 + x) 1085102592571150095 (by omega) (by decide)
  rw [show ((x : Int) / 16 + (x : Int)) = ((x / 16 + x : Nat) : Int) by omega, wrap_u64 _ (by omega)]
  unfold s3
  rw [e]
  exact q1
theorem ones_x4 (y : Nat) (hy : y < 1000000000000000000) : IntKind.u64.wrap ((y : Int) + (y : Int) / 256) = ((y + y / 256 : Nat) : Int) ∧ IntKind.u64.wrap (((y + y / 256 : Nat) : Int) + ((y + y / 256 : Nat) : Int) / 65536) = ((y + y / 256 + (y + y / 256) / 65536 : Nat) : Int) ∧
    IntKind.u64.wrap (((y + y / 256 + (y + y / 256) / 65536 : Nat) : Int) + ((y + y / 256 + (y + y / 256) / 65536 : Nat) : Int) / 4294967296) = ((y + y / 256 + (y + y / 256) / 65536 + (y + y / 256 + (y + y / 256) / 65536) / 4294967296 : Nat) : Int) ∧
    y + y / 256 + (y + y / 256) / 65536 + (y + y / 256 + (y + y / 256) / 65536) / 4294967296 < 2000000000000000000 := by
  refine ⟨?_, ?_, ?_, by omega⟩
  · exact wrap_to (by omega) (by omega)
  · exact wrap_to (by omega) (by omega)
  · exact wrap_to (by omega) (by omega)
theorem and127 (a : Nat) (ha : a < 9223372036854775808) : bits BinOp.and IntKind.i64 (a : Int) 127 = ((a % 128 : Nat) : Int) := by
  have e : bits .and .i64 (a : Int) 127 = IntKind.i64.wrap ((BitVec.ofInt 64 (a : Int) &&& BitVec.ofInt 64 127).toNat : Int) := rfl
  have h1 : (BitVec.ofInt 64 (a : Int) &&& BitVec.ofInt 64 127).toNat = a % 128 := by
    rw [BitVec.toNat_and, show (BitVec.ofInt 64 (a : Int)).toNat = a by simp; omega, show (BitVec.ofInt 64 127).toNat = 2 ^ 7 - 1 from rfl, Nat.and_two_pow_sub_one_eq_mod]
  rw [e, h1]
  simp [IntKind.wrap, IntKind.bits, IntKind.signed]
  omega
end Go.Proofs.YtodhljiboakjnaaGreat.Clep
