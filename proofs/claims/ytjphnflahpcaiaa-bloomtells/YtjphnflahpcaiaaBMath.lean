/- Plain mathematics of a filter's bits: all bits as one number; its words, its bytes, how many of its bits are set; the bits of a key. No conditions. -/
import Derived.Test.YtjphnflahpcaiaaBase
namespace Go.Proofs.Ytjphnflahpcaiaa.Clep
set_option linter.unusedVariables false

/-- The j-th word of all bits. -/
def wd (N j : Nat) : Nat := N / 2 ^ (64 * j) % 18446744073709551616
/-- The i-th byte of all bits. -/
def by8 (N i : Nat) : Nat := N / 2 ^ (8 * i) % 256
theorem wd_bit (N j t : Nat) : (wd N j).testBit t = (decide (t < 64) && N.testBit (64 * j + t)) := by
  unfold wd
  rw [show (18446744073709551616 : Nat) = 2 ^ 64 from rfl, Nat.testBit_mod_two_pow, Nat.testBit_div_two_pow]
  rw [Nat.add_comm]
theorem by8_bit (N j t : Nat) : (by8 N j).testBit t = (decide (t < 8) && N.testBit (8 * j + t)) := by
  unfold by8
  rw [show (256 : Nat) = 2 ^ 8 from rfl, Nat.testBit_mod_two_pow, Nat.testBit_div_two_pow]
  rw [Nat.add_comm]
theorem wd_lt (N j : Nat) : wd N j < 18446744073709551616 := Nat.mod_lt _ (by decide)
theorem by8_lt (N j : Nat) : by8 N j < 256 := Nat.mod_lt _ (by decide)
theorem wd_zero (j : Nat) : wd 0 j = 0 := by simp [wd]
theorem by8_zero (j : Nat) : by8 0 j = 0 := by simp [by8]
theorem wd_or (N p j : Nat) : wd (N ||| 2 ^ p) j = if j = p / 64 then wd N j ||| 2 ^ (p % 64) else wd N j := by
  apply Nat.eq_of_testBit_eq
  intro t
  split
  · rename_i h
    rw [wd_bit, Nat.testBit_or, Nat.testBit_or, wd_bit, Nat.testBit_two_pow, Nat.testBit_two_pow]
    by_cases ht : t < 64
    · have : decide (p = 64 * j + t) = decide (p % 64 = t) := decide_eq_decide.2 (by omega)
      simp [ht, this]
    · have : ¬ p % 64 = t := by omega
      simp [ht, this]
  · rename_i h
    rw [wd_bit, wd_bit, Nat.testBit_or, Nat.testBit_two_pow]
    by_cases ht : t < 64
    · have : ¬ p = 64 * j + t := by omega
      simp [this]
    · simp [ht]
theorem by8_or (N p j : Nat) : by8 (N ||| 2 ^ p) j = if j = p / 8 then by8 N j ||| 2 ^ (p % 8) else by8 N j := by
  apply Nat.eq_of_testBit_eq
  intro t
  split
  · rename_i h
    rw [by8_bit, Nat.testBit_or, Nat.testBit_or, by8_bit, Nat.testBit_two_pow, Nat.testBit_two_pow]
    by_cases ht : t < 8
    · have : decide (p = 8 * j + t) = decide (p % 8 = t) := decide_eq_decide.2 (by omega)
      simp [ht, this]
    · have : ¬ p % 8 = t := by omega
      simp [ht, this]
  · rename_i h
    rw [by8_bit, by8_bit, Nat.testBit_or, Nat.testBit_two_pow]
    by_cases ht : t < 8
    · have : ¬ p = 8 * j + t := by omega
      simp [this]
    · simp [ht]
theorem and_pow (a s : Nat) : a &&& 2 ^ s = if a.testBit s then 2 ^ s else 0 := by
  apply Nat.eq_of_testBit_eq
  intro t
  rw [Nat.testBit_and, Nat.testBit_two_pow]
  by_cases h : s = t
  · subst h
    by_cases hb : a.testBit s <;> simp [hb]
  · by_cases hb : a.testBit s <;> simp [h, hb]
theorem wd_test (N p : Nat) : wd N (p / 64) &&& 2 ^ (p % 64) = if N.testBit p then 2 ^ (p % 64) else 0 := by
  rw [and_pow, wd_bit, show 64 * (p / 64) + p % 64 = p from Nat.div_add_mod p 64]
  simp [Nat.mod_lt p (show 0 < 64 by decide)]
theorem by8_test (N p : Nat) : by8 N (p / 8) / 2 ^ (p % 8) % 2 = (N.testBit p).toNat := by
  have h := by8_bit N (p / 8) (p % 8)
  rw [Nat.div_add_mod p 8] at h
  simp only [Nat.mod_lt p (show 0 < 8 by decide), decide_true, Bool.true_and] at h
  rw [← h, Nat.testBit_eq_decide_div_mod_eq]
  have : by8 N (p / 8) / 2 ^ (p % 8) % 2 < 2 := Nat.mod_lt _ (by decide)
  by_cases h1 : by8 N (p / 8) / 2 ^ (p % 8) % 2 = 1
  · simp [h1]
  · simp [h1]; omega
theorem by8_wd (N i : Nat) : wd N (i / 8) / 2 ^ (i % 8 * 8) % 256 = by8 N i := by
  apply Nat.eq_of_testBit_eq
  intro t
  rw [show (256 : Nat) = 2 ^ 8 from rfl, Nat.testBit_mod_two_pow, Nat.testBit_div_two_pow, wd_bit, by8_bit]
  by_cases ht : t < 8
  · rw [show 64 * (i / 8) + (t + i % 8 * 8) = 8 * i + t from by omega]
    have : t + i % 8 * 8 < 64 := by omega
    simp [ht, this]
  · simp [ht]
/-- One byte more, laid at its place. -/
theorem wd_lay (N c i j : Nat) (hc : c < 256) : wd (N ||| c * 2 ^ (8 * i)) j = if j = i / 8 then wd N j ||| c * 2 ^ (i % 8 * 8) else wd N j := by
  have hb : ∀ q, (c * 2 ^ (8 * i)).testBit q = (decide (8 * i ≤ q) && c.testBit (q - 8 * i)) := fun q => by rw [Nat.mul_comm, Nat.testBit_two_pow_mul]
  have hb2 : ∀ q, (c * 2 ^ (i % 8 * 8)).testBit q = (decide (i % 8 * 8 ≤ q) && c.testBit (q - i % 8 * 8)) := fun q => by rw [Nat.mul_comm, Nat.testBit_two_pow_mul]
  have hbig : ∀ q, 8 ≤ q → c.testBit q = false := fun q hq => Nat.testBit_lt_two_pow (Nat.lt_of_lt_of_le hc (Nat.pow_le_pow_right (n := 2) (by decide) hq))
  apply Nat.eq_of_testBit_eq
  intro t
  split
  · rename_i h
    rw [wd_bit, Nat.testBit_or, Nat.testBit_or, wd_bit, hb, hb2]
    by_cases ht : t < 64
    · have h1 : decide (8 * i ≤ 64 * j + t) = decide (i % 8 * 8 ≤ t) := decide_eq_decide.2 (by omega)
      by_cases h2 : i % 8 * 8 ≤ t
      · rw [show 64 * j + t - 8 * i = t - i % 8 * 8 from by omega]
        simp [ht, h1]
      · simp [ht, h1, h2]
    · have := hbig (t - i % 8 * 8) (by omega)
      simp [ht, this]
  · rename_i h
    rw [wd_bit, wd_bit, Nat.testBit_or, hb]
    by_cases ht : t < 64
    · by_cases h2 : 8 * i ≤ 64 * j + t
      · have := hbig (64 * j + t - 8 * i) (by omega)
        simp [this]
      · simp [h2]
    · simp [ht]

/-- How many of the lowest n bits are set. -/
def pc : Nat → Nat → Nat
  | 0, _ => 0
  | n + 1, N => pc n N + (N.testBit n).toNat
theorem pc_congr : ∀ (n a b : Nat), (∀ t, t < n → a.testBit t = b.testBit t) → pc n a = pc n b
  | 0, _, _, _ => rfl
  | n + 1, a, b, h => by
    simp only [pc]
    rw [pc_congr n a b fun t ht => h t (by omega), h n (by omega)]
theorem pc_add (m N : Nat) : ∀ n, pc (m + n) N = pc m N + pc n (N / 2 ^ m)
  | 0 => rfl
  | n + 1 => by
    show pc (m + n) N + (N.testBit (m + n)).toNat = _
    rw [pc_add m N n]
    simp only [pc]
    rw [Nat.testBit_div_two_pow, Nat.add_comm n m]
    omega
theorem pc_words (N m : Nat) : pc (64 * (m + 1)) N = pc (64 * m) N + pc 64 (wd N m) := by
  rw [Nat.mul_add, Nat.mul_one, pc_add]
  congr 1
  refine pc_congr 64 _ _ fun t ht => ?_
  rw [wd_bit, Nat.testBit_div_two_pow, Nat.add_comm]
  simp [ht]
theorem pc_bytes (N m : Nat) : pc (8 * (m + 1)) N = pc (8 * m) N + pc 8 (by8 N m) := by
  rw [Nat.mul_add, Nat.mul_one, pc_add]
  congr 1
  refine pc_congr 8 _ _ fun t ht => ?_
  rw [by8_bit, Nat.testBit_div_two_pow, Nat.add_comm]
  simp [ht]
theorem pc_le : ∀ (n N : Nat), pc n N ≤ n
  | 0, _ => Nat.le_refl _
  | n + 1, N => by
    have := pc_le n N
    simp only [pc]
    have : (N.testBit n).toNat ≤ 1 := Bool.toNat_le _
    omega
theorem pc_zero : ∀ n, pc n 0 = 0
  | 0 => rfl
  | n + 1 => by simp [pc, pc_zero n]
theorem pc_big (N n : Nat) (h : N < 2 ^ n) : ∀ m, n ≤ m → pc m N = pc n N
  | m, hm => by
    rcases Nat.eq_or_lt_of_le hm with e | e
    · rw [e]
    · match m, e with
      | m + 1, e =>
        simp only [pc]
        rw [Nat.testBit_lt_two_pow (Nat.lt_of_lt_of_le h (Nat.pow_le_pow_right (by decide) (by omega))), pc_big N n h m (by omega)]
        rfl
theorem pc_or (N p : Nat) : ∀ n, pc n (N ||| 2 ^ p) = pc n N + (if p < n ∧ N.testBit p = false then 1 else 0)
  | 0 => by simp [pc]
  | n + 1 => by
    simp only [pc]
    rw [pc_or N p n, Nat.testBit_or, Nat.testBit_two_pow]
    by_cases hp : p = n
    · subst hp
      by_cases hb : N.testBit p = true
      · simp [hb]
      · simp [hb]
    · by_cases hlt : p < n
      · by_cases hb : N.testBit p = true
        · simp [hb, hp]
        · simp only [hb, hp, hlt, show p < n + 1 by omega, decide_false, Bool.or_false]; simp; omega
      · simp [hp, hlt, show ¬ p < n + 1 by omega]

/-- The i-th bit of a key whose hash is h, of sz bytes. -/
def pl (h i sz : Nat) : Nat := (h % 4294967296 + i * (h / 4294967296)) % 4294967296 % (sz * 8)
theorem pl_lt (h i sz : Nat) (hs : 0 < sz) : pl h i sz < 8 * sz := by
  have : pl h i sz < sz * 8 := Nat.mod_lt _ (by omega)
  omega
/-- The first k bits of a key are set. -/
def addk (h sz : Nat) : Nat → Nat → Nat
  | 0, N => N
  | k + 1, N => addk h sz k N ||| 2 ^ pl h k sz
/-- Are they all set? -/
def hask (h sz : Nat) : Nat → Nat → Bool
  | 0, _ => true
  | k + 1, N => hask h sz k N && N.testBit (pl h k sz)
theorem hask_iff (h sz N : Nat) : ∀ k, hask h sz k N = true ↔ ∀ i, i < k → N.testBit (pl h i sz) = true
  | 0 => by simp [hask]
  | k + 1 => by
    simp only [hask, Bool.and_eq_true, hask_iff h sz N k]
    constructor
    · rintro ⟨h1, h2⟩ i hi
      rcases Nat.lt_or_ge i k with h3 | h3
      · exact h1 i h3
      · rw [show i = k by omega]; exact h2
    · intro h1
      exact ⟨fun i hi => h1 i (by omega), h1 k (by omega)⟩
theorem addk_bit (h sz N p : Nat) : ∀ k, (addk h sz k N).testBit p = true ↔ N.testBit p = true ∨ ∃ i, i < k ∧ pl h i sz = p
  | 0 => by simp [addk]
  | k + 1 => by
    simp only [addk, Nat.testBit_or, Bool.or_eq_true, addk_bit h sz N p k, Nat.testBit_two_pow, decide_eq_true_eq]
    constructor
    · rintro ((h1 | ⟨i, hi, h1⟩) | h1)
      · exact .inl h1
      · exact .inr ⟨i, by omega, h1⟩
      · exact .inr ⟨k, by omega, h1⟩
    · rintro (h1 | ⟨i, hi, h1⟩)
      · exact .inl (.inl h1)
      · rcases Nat.lt_or_ge i k with h3 | h3
        · exact .inl (.inr ⟨i, h3, h1⟩)
        · rw [show i = k by omega] at h1; exact .inr h1
theorem addk_lt (h sz N : Nat) (hs : 0 < sz) (hN : N < 2 ^ (8 * sz)) : ∀ k, addk h sz k N < 2 ^ (8 * sz)
  | 0 => hN
  | k + 1 => by
    simp only [addk]
    exact Nat.or_lt_two_pow (addk_lt h sz N hs hN k) (Nat.pow_lt_pow_right (by decide) (pl_lt h k sz hs))
theorem hask_add (h sz N k : Nat) : hask h sz k (addk h sz k N) = true := (hask_iff _ _ _ _).2 fun i hi => (addk_bit _ _ _ _ _).2 (.inr ⟨i, hi, rfl⟩)
theorem hask_mono {h sz k N M : Nat} (hm : ∀ p, N.testBit p = true → M.testBit p = true) (hh : hask h sz k N = true) : hask h sz k M = true :=
  (hask_iff _ _ _ _).2 fun i hi => hm _ ((hask_iff _ _ _ _).1 hh i hi)
theorem addk_more (h sz N k : Nat) : ∀ p, N.testBit p = true → (addk h sz k N).testBit p = true := fun p hp => (addk_bit _ _ _ _ _).2 (.inl hp)
theorem bit_eq {a b : Nat} (h : ∀ p, a.testBit p = true ↔ b.testBit p = true) : a = b :=
  Nat.eq_of_testBit_eq fun p => Bool.eq_iff_iff.2 (h p)
theorem addk_same {h sz k N : Nat} (hh : hask h sz k N = true) : addk h sz k N = N := by
  refine bit_eq fun p => ?_
  rw [addk_bit]
  constructor
  · rintro (h1 | ⟨i, hi, rfl⟩)
    · exact h1
    · exact (hask_iff _ _ _ _).1 hh i hi
  · exact .inl
theorem pc_addk (h sz N : Nat) (hs : 0 < sz) : ∀ k, pc (8 * sz) N ≤ pc (8 * sz) (addk h sz k N) ∧ pc (8 * sz) (addk h sz k N) ≤ pc (8 * sz) N + k ∧ (hask h sz k N = false → pc (8 * sz) N < pc (8 * sz) (addk h sz k N))
  | 0 => by simp [addk, hask]
  | k + 1 => by
    obtain ⟨h1, h2, h3⟩ := pc_addk h sz N hs k
    simp only [addk, pc_or, pl_lt h k sz hs, true_and]
    refine ⟨by omega, by split <;> omega, fun hh => ?_⟩
    simp only [hask, Bool.and_eq_false_iff] at hh
    rcases hh with hh | hh
    · have := h3 hh; omega
    · by_cases h4 : (addk h sz k N).testBit (pl h k sz) = false
      · rw [if_pos h4]; omega
      · have h5 : hask h sz k N = false := by
          rcases hx : hask h sz k N with _ | _
          · rfl
          · rw [addk_same hx] at h4; exact absurd hh h4
        have := h3 h5; omega
theorem hask_zero (h sz k : Nat) (hk : 0 < k) : hask h sz k 0 = false := by
  rcases hx : hask h sz k 0 with _ | _
  · rfl
  · have := (hask_iff _ _ _ _).1 hx 0 hk; simp at this

end Go.Proofs.Ytjphnflahpcaiaa.Clep
