/- Plain mathematics of the sums of texts (CRC-32C): a sum is linear over exclusive or, one step of it is one to one, keeps the parity of the bits, and does not come back to 1 within 32,767 steps. No conditions. -/
import Derived.RowKit
namespace Go.Proofs.Ytgopcaemgcnapaa.Clep
set_option linter.unusedVariables false
set_option maxRecDepth 10000

/-- One bit of a sum. -/
def stp (c : Nat) : Nat := c / 2 ^^^ c % 2 * 2197175160
/-- k bits of a sum. -/
def it : Nat → Nat → Nat
  | 0, c => c
  | k + 1, c => it k (stp c)

theorem xor_div2 (a b : Nat) : (a ^^^ b) / 2 = a / 2 ^^^ b / 2 := by
  have := Nat.shiftRight_xor_distrib (a := a) (b := b) (i := 1)
  simpa [Nat.shiftRight_eq_div_pow] using this
theorem xor_mod2 (a b : Nat) : (a ^^^ b) % 2 = (a % 2 + b % 2) % 2 := by
  have := Nat.xor_mod_two_pow (a := a) (b := b) (n := 1)
  rw [show (2 : Nat) ^ 1 = 2 from rfl] at this
  rw [this]
  have ha : a % 2 = 0 ∨ a % 2 = 1 := by omega
  have hb : b % 2 = 0 ∨ b % 2 = 1 := by omega
  rcases ha with ha | ha <;> rcases hb with hb | hb <;> rw [ha, hb] <;> rfl
theorem bit_mul (x y p : Nat) (hx : x < 2) (hy : y < 2) : (x + y) % 2 * p = x * p ^^^ y * p := by
  have hx : x = 0 ∨ x = 1 := by omega
  have hy : y = 0 ∨ y = 1 := by omega
  rcases hx with rfl | rfl <;> rcases hy with rfl | rfl <;> simp

theorem stp_xor (a b : Nat) : stp (a ^^^ b) = stp a ^^^ stp b := by
  unfold stp
  rw [xor_div2, xor_mod2, bit_mul _ _ _ (by omega) (by omega)]
  simp only [Nat.xor_assoc]
  congr 1
  rw [← Nat.xor_assoc, ← Nat.xor_assoc, Nat.xor_comm (b / 2)]
theorem it_xor : ∀ (k a b : Nat), it k (a ^^^ b) = it k a ^^^ it k b
  | 0, a, b => rfl
  | k + 1, a, b => by rw [it, stp_xor, it_xor k]; rfl
theorem it_add : ∀ (k m a : Nat), it (k + m) a = it m (it k a)
  | 0, m, a => by rw [Nat.zero_add]; rfl
  | k + 1, m, a => by rw [show k + 1 + m = k + m + 1 from by omega, it, it_add k m]; rfl
theorem stp_two (x : Nat) : stp (2 * x) = x := by
  unfold stp; rw [show 2 * x / 2 = x from by omega, show 2 * x % 2 = 0 from by omega]; simp
theorem it_shift : ∀ (k x : Nat), it k (2 ^ k * x) = x
  | 0, x => by simp [it]
  | k + 1, x => by rw [it, show 2 ^ (k + 1) * x = 2 * (2 ^ k * x) from by rw [Nat.pow_succ]; simp only [Nat.mul_comm, Nat.mul_left_comm], stp_two, it_shift k]
theorem it_zero (k : Nat) : it k 0 = 0 := by have := it_shift k 0; simpa using this
theorem it_far (m k x : Nat) (h : k ≤ m) : it m (2 ^ k * x) = it (m - k) x := by
  rw [show m = k + (m - k) from by omega, it_add, it_shift, show k + (m - k) - k = m - k from by omega]

theorem stp_lt (c : Nat) (h : c < 4294967296) : stp c < 4294967296 := by
  unfold stp
  have : c % 2 * 2197175160 < 2 ^ 32 := by have : c % 2 < 2 := by omega
                                           omega
  exact Nat.xor_lt_two_pow (n := 32) (by omega) this
theorem it_lt : ∀ (k c : Nat), c < 4294967296 → it k c < 4294967296
  | 0, c, h => h
  | k + 1, c, h => it_lt k _ (stp_lt c h)
theorem xor_eq_zero {a b : Nat} (h : a ^^^ b = 0) : a = b := by
  have : a ^^^ b ^^^ b = 0 ^^^ b := by rw [h]
  simpa [Nat.xor_assoc] using this
theorem stp_zero (c : Nat) (h : c < 4294967296) (h0 : stp c = 0) : c = 0 := by
  have e := xor_eq_zero h0
  have : c % 2 = 0 ∨ c % 2 = 1 := by omega
  rcases this with h2 | h2 <;> rw [h2] at e <;> omega
theorem it_ne : ∀ (k c : Nat), c < 4294967296 → it k c = 0 → c = 0
  | 0, c, _, h0 => h0
  | k + 1, c, h, h0 => stp_zero c h (it_ne k _ (stp_lt c h) h0)
theorem it_inj (k a b : Nat) (ha : a < 4294967296) (hb : b < 4294967296) (h : it k a = it k b) : a = b := by
  refine xor_eq_zero (it_ne k _ (Nat.xor_lt_two_pow (n := 32) ha hb) ?_)
  rw [it_xor, h, Nat.xor_self]

/-- The parity of the first f bits. -/
def par : Nat → Nat → Nat
  | 0, _ => 0
  | f + 1, n => (n % 2 + par f (n / 2)) % 2
theorem par_xor : ∀ (f a b : Nat), par f (a ^^^ b) = (par f a + par f b) % 2
  | 0, a, b => rfl
  | f + 1, a, b => by
    simp only [par]
    rw [xor_mod2, xor_div2, par_xor f]
    omega
theorem par_zero : ∀ (f : Nat), par f 0 = 0
  | 0 => rfl
  | f + 1 => by simp only [par, Nat.zero_div, par_zero f]
theorem par_poly : ∀ (f : Nat), par (f + 32) 2197175160 = 1
  | f => by
    have : ∀ n, n ≤ 32 → par (f + n) (2197175160 / 2 ^ (32 - n)) = par n (2197175160 / 2 ^ (32 - n)) := by
      intro n
      induction n with
      | zero => intro _; simp [par_zero, show (2197175160 : Nat) / 2 ^ 32 = 0 from by decide, par]
      | succ n ih =>
        intro hn
        have ih := ih (by omega)
        rw [show f + (n + 1) = f + n + 1 from by omega]
        simp only [par]
        rw [Nat.div_div_eq_div_mul, show 2 ^ (32 - (n + 1)) * 2 = 2 ^ (32 - n) from by rw [← Nat.pow_succ]; congr 1; omega, ih]
    have h := this 32 (by omega)
    simp only [Nat.sub_self, Nat.pow_zero, Nat.div_one] at h
    rw [h]; decide
theorem par_stp (f c : Nat) (hf : 32 ≤ f) : par f (stp c) = par (f + 1) c := by
  obtain ⟨g, rfl⟩ : ∃ g, f = g + 32 := ⟨f - 32, by omega⟩
  unfold stp
  rw [par_xor, show par (g + 32 + 1) c = (c % 2 + par (g + 32) (c / 2)) % 2 from rfl]
  have : c % 2 = 0 ∨ c % 2 = 1 := by omega
  rcases this with h2 | h2 <;> rw [h2]
  · rw [Nat.zero_mul, par_zero]; omega
  · rw [Nat.one_mul, par_poly]; omega
theorem par_it : ∀ (k c : Nat), par 32 (it k c) = par (32 + k) c
  | 0, c => rfl
  | k + 1, c => by
    rw [it, par_it k, par_stp _ _ (by omega)]; rfl
theorem par_bit : ∀ (f i : Nat), i < f → par f (2 ^ i) = 1
  | f + 1, 0, _ => by simp [par, par_zero]
  | f + 1, i + 1, h => by
    simp only [par]
    rw [Nat.pow_succ, show 2 ^ i * 2 % 2 = 0 from by omega, show 2 ^ i * 2 / 2 = 2 ^ i from by omega, par_bit f i (by omega)]

/-- From c on, none of n steps comes to 1, and they end at e. -/
def far : Nat → Nat → Nat → Bool
  | 0, c, e => c == e
  | n + 1, c, e => match (c / 2 ^^^ c % 2 * 2197175160) == 1 with
    | true => false
    | false => far n (c / 2 ^^^ c % 2 * 2197175160) e
theorem far_ne : ∀ (n c e : Nat), far n c e = true → (∀ d, 0 < d → d ≤ n → it d c ≠ 1) ∧ it n c = e
  | 0, c, e, h => ⟨fun d h0 h1 => by omega, by simpa [far, it] using h⟩
  | n + 1, c, e, h => by
    rw [far] at h
    split at h
    · cases h
    · next hc =>
      have ih := far_ne n _ e h
      refine ⟨fun d h0 h1 => ?_, ih.2⟩
      cases d with
      | zero => omega
      | succ d =>
        rw [it]
        cases d with
        | zero => simpa [it, stp] using hc
        | succ d => exact ih.1 (d + 1) (by omega) (by omega)
def Upto (n e : Nat) : Prop := (∀ d, 0 < d → d ≤ n → it d 1 ≠ 1) ∧ it n 1 = e
theorem upto_more {n e f : Nat} (h : Upto n e) (hf : far 1024 e f = true) : Upto (n + 1024) f := by
  have h2 := far_ne 1024 e f hf
  refine ⟨fun d h0 h1 => ?_, by rw [it_add, h.2]; exact h2.2⟩
  rcases Nat.lt_or_ge n d with hd | hd
  · rw [show d = n + (d - n) from by omega, it_add, h.2]
    exact h2.1 (d - n) (by omega) (by omega)
  · exact h.1 d h0 hd
theorem upto_0 : Upto 0 1 := ⟨fun d h0 h1 => by omega, rfl⟩
theorem upto_1 : Upto 1024 1771228834 := upto_more upto_0 (by decide +kernel)
theorem upto_2 : Upto 2048 3702618788 := upto_more upto_1 (by decide +kernel)
theorem upto_3 : Upto 3072 11282895 := upto_more upto_2 (by decide +kernel)
theorem upto_4 : Upto 4096 3178201592 := upto_more upto_3 (by decide +kernel)
theorem upto_5 : Upto 5120 1297520444 := upto_more upto_4 (by decide +kernel)
theorem upto_6 : Upto 6144 2375439644 := upto_more upto_5 (by decide +kernel)
theorem upto_7 : Upto 7168 3708241038 := upto_more upto_6 (by decide +kernel)
theorem upto_8 : Upto 8192 4264641112 := upto_more upto_7 (by decide +kernel)
theorem upto_9 : Upto 9216 1672384998 := upto_more upto_8 (by decide +kernel)
theorem upto_10 : Upto 10240 1955735041 := upto_more upto_9 (by decide +kernel)
theorem upto_11 : Upto 11264 1850521136 := upto_more upto_10 (by decide +kernel)
theorem upto_12 : Upto 12288 502925845 := upto_more upto_11 (by decide +kernel)
theorem upto_13 : Upto 13312 368595539 := upto_more upto_12 (by decide +kernel)
theorem upto_14 : Upto 14336 3733624824 := upto_more upto_13 (by decide +kernel)
theorem upto_15 : Upto 15360 3673877116 := upto_more upto_14 (by decide +kernel)
theorem upto_16 : Upto 16384 4149242244 := upto_more upto_15 (by decide +kernel)
theorem upto_17 : Upto 17408 2942908889 := upto_more upto_16 (by decide +kernel)
theorem upto_18 : Upto 18432 1847728860 := upto_more upto_17 (by decide +kernel)
theorem upto_19 : Upto 19456 3927750375 := upto_more upto_18 (by decide +kernel)
theorem upto_20 : Upto 20480 3098967068 := upto_more upto_19 (by decide +kernel)
theorem upto_21 : Upto 21504 3856817104 := upto_more upto_20 (by decide +kernel)
theorem upto_22 : Upto 22528 2415052639 := upto_more upto_21 (by decide +kernel)
theorem upto_23 : Upto 23552 2934850786 := upto_more upto_22 (by decide +kernel)
theorem upto_24 : Upto 24576 3671759371 := upto_more upto_23 (by decide +kernel)
theorem upto_25 : Upto 25600 778524156 := upto_more upto_24 (by decide +kernel)
theorem upto_26 : Upto 26624 2997890085 := upto_more upto_25 (by decide +kernel)
theorem upto_27 : Upto 27648 3938062399 := upto_more upto_26 (by decide +kernel)
theorem upto_28 : Upto 28672 1761173275 := upto_more upto_27 (by decide +kernel)
theorem upto_29 : Upto 29696 703072131 := upto_more upto_28 (by decide +kernel)
theorem upto_30 : Upto 30720 941193457 := upto_more upto_29 (by decide +kernel)
theorem upto_31 : Upto 31744 2863890204 := upto_more upto_30 (by decide +kernel)
theorem upto_32 : Upto 32768 3265640030 := upto_more upto_31 (by decide +kernel)
/-- Within 32,768 steps a sum's one bit does not come back. -/
theorem order (d : Nat) (h0 : 0 < d) (h1 : d ≤ 32768) : it d 1 ≠ 1 := upto_32.1 d h0 h1

end Go.Proofs.Ytgopcaemgcnapaa.Clep
