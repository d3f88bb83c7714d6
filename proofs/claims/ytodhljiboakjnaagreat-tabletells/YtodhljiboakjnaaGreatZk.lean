/- Plain mathematics of the sums of texts (CRC-32C): a sum is linear over exclusive or, one step of it is one to one, keeps the parity of the bits, and does not come back to 1 within 32,767 steps. No conditions. -/
import Derived.RowKit
import Derived.Test.YtodhljiboakjnaaGreatZa
namespace Go.Proofs.YtodhljiboakjnaaGreat.Clep
set_option linter.unusedVariables false
set_option maxRecDepth 10000

/-- One bit of a sum. -/
def stp (c : Nat) : Nat := c / 2 ^^^ c % 2 * 2197175160
/-- k bits of a sum. -/
def it : Nat → Nat → Nat
  | 0, c => c
  | k + 1, c => it k (stp c)

theorem xor_div2 (a b : Nat) : (a ^^^ b) / 2 = a / 2 ^^^ b / 2 := by
  have := Nat.shiftRight_xor_distrib (a := a) (b := b) (i := 1)
  simpa [Nat.shiftRight_eq_div_pow] using this
theorem xor_mod2 (a b : Nat) : (a ^^^ b) % 2 = (a % 2 + b % 2) % 2 := by
  have := Nat.xor_mod_two_pow (a := a) (b := b) (n := 1)
  rw [show (2 : Nat) ^ 1 = 2 from rfl] at this
  rw [this]
  have ha : a % 2 = 0 ∨ a % 2 = 1 := by omega
  have hb : b % 2 = 0 ∨ b % 2 = 1 := by omega
  rcases ha with ha | ha <;> rcases hb with hb | hb <;> rw [ha, hb] <;> rfl
theorem bit_mul (x y p : Nat) (hx : x < 2) (hy : y < 2) : (x + y) % 2 * p = x * p ^^^ y * p := by
  have hx : x = 0 ∨ x = 1 := by omega
  have hy : y = 0 ∨ y = 1 := by omega
  rcases hx with rfl | rfl <;> rcases hy with rfl | rfl <;> simp

theorem stp_xor (a b : Nat) : stp (a ^^^ b) = stp a ^^^ stp b := by
  unfold stp
  rw [xor_div2, xor_mod2, bit_mul _ _ _ (by omega) (by omega)]
  simp only [Nat.xor_assoc]
  congr 1
  rw [← Nat.xor_assoc, ← Nat.xor_assoc, Nat.xor_comm (b / 2)]
theorem it_xor : ∀ (k a b : Nat), it k (a ^^^ b) = it k a ^^^ it k b
  | 0, a, b => rfl
  | k + 1, a, b => by rw [it, stp_xor, it_xor k]; rfl
theorem it_add : ∀ (k m a : Nat), it (k + m) a = it m (it k a)
  | 0, m, a => by rw [Nat.zero_add]; rfl
  | k + 1, m, a => by rw [show k + 1 + m = k + m + 1 from by omega, it, it_add k m]; rfl
theorem stp_two (x : Nat) : stp (2 * x) = x := by
  unfold stp; rw [show 2 * x / 2 = x from by omega, show 2 * x % 2 = 0 from by omega]; simp
theorem it_shift : ∀ (k x : Nat), it k (2 ^ k * x) = x
  | 0, x => by simp [it]
  | k + 1, x => by rw [it, show 2 ^ (k + 1) * x = 2 * (2 ^ k * x) from by rw [Nat.pow_succ]; simp only [Nat.mul_comm, Nat.mul_left_comm], stp_two, it_shift k]
theorem it_zero (k : Nat) : it k 0 = 0 := by have := it_shift k 0; simpa using this
theorem it_far (m k x : Nat) (h : k ≤ m) : it m (2 ^ k * x) = it (m - k) x := by
  rw [show m = k + (m - k) from by omega, it_add, it_shift, show k + (m - k) - k = m - k from by omega]

theorem stp_lt (c : Nat) (h : c < 4294967296) : stp c < 4294967296 := by
  unfold stp
  have : c % 2 * 2197175160 < 2 ^ 32 := by have : c % 2 < 2 := by omega
                                           omega
  exact Nat.xor_lt_two_pow (n := 32) (by omega) this
theorem it_lt : ∀ (k c : Nat), c < 4294967296 → it k c < 4294967296
  | 0, c, h => h
  | k + 1, c, h => it_lt k _ (stp_lt c h)
theorem xor_eq_zero {a b : Nat} (h : a ^^^ b = 0) : a = b := by
  have : a ^^^ b ^^^ b = 0 ^^^ b := by rw [h]
  simpa [Nat.xor_assoc] using this
theorem stp_zero (c : Nat) (h : c < 4294967296) (h0 : stp c = 0) : c = 0 := by
  have e := xor_eq_zero h0
  have : c % 2 = 0 ∨ c % 2 = 1 := by omega
  rcases this with h2 | h2 <;> rw [h2] at e <;> omega
theorem it_ne : ∀ (k c : Nat), c < 4294967296 → it k c = 0 → c = 0
  | 0, c, _, h0 => h0
  | k + 1, c, h, h0 => stp_zero c h (it_ne k _ (stp_lt c h) h0)
theorem it_inj (k a b : Nat) (ha : a < 4294967296) (hb : b < 4294967296) (h : it k a = it k b) : a = b := by
  refine xor_eq_zero (it_ne k _ (Nat.xor_lt_two_pow (n := 32) ha hb) ?_)
  rw [it_xor, h, Nat.xor_self]

/-- The parity of the first f bits. -/
def par : Nat → Nat → Nat
  | 0, _ => 0
  | f + 1, n => (n % 2 + par f (n / 2)) % 2
theorem par_xor : ∀ (f a b : Nat), par f (a ^^^ b) = (par f a + par f b) % 2
  | 0, a, b => rfl
  | f + 1, a, b => by
    simp only [par]
    rw [xor_mod2, xor_div2, par_xor f]
    omega
theorem par_zero : ∀ (f : Nat), par f 0 = 0
  | 0 => rfl
  | f + 1 => by simp only [par, Nat.zero_div, par_zero f]
theorem par_poly : ∀ (f : Nat), par (f + 32) 2197175160 = 1
  | f => by
    have : ∀ n, n ≤ 32 → par (f + n) (2197175160 / 2 ^ (32 - n)) = par n (2197175160 / 2 ^ (32 - n)) := by
      intro n
      induction n with
      | zero => intro _; simp [par_zero, show (2197175160 : Nat) / 2 ^ 32 = 0 from by decide, par]
      | succ n ih =>
        intro hn
        have ih := ih (by omega)
        rw [show f + (n + 1) = f + n + 1 from by omega]
        simp only [par]
        rw [Nat.div_div_eq_div_mul, show 2 ^ (32 - (n + 1)) * 2 = 2 ^ (32 - n) from by rw [← Nat.pow_succ]; congr 1; omega, ih]
    have h := this 32 (by omega)
    simp only [Nat.sub_self, Nat.pow_zero, Nat.div_one] at h
    rw [h]; decide
theorem par_stp (f c : Nat) (hf : 32 ≤ f) : par f (stp c) = par (f + 1) c := by
  obtain ⟨g, rfl⟩ : ∃ g, f = g + 32 := ⟨f - 32, by omega⟩
  unfold stp
  rw [par_xor, show par (g + 32 + 1) c = (c % 2 + par (g + 32) (c / 2)) % 2 from rfl]
  have : c % 2 = 0 ∨ c % 2 = 1 := by omega
  rcases this with h2 | h2 <;> rw [h2]
  · rw [Nat.zero_mul, par_zero]; omega
  · rw [Nat.one_mul, par_poly]; omega
theorem par_it : ∀ (k c : Nat), par 32 (it k c) = par (32 + k) c
  | 0, c => rfl
  | k + 1, c => by
    rw [it, par_it k, par_stp _ _ (by omega)]; rfl
theorem par_bit : ∀ (f i : Nat), i < f → par f (2 ^ i) = 1
  | f + 1, 0, _ => by simp [par, par_zero]
  | f + 1, i + 1, h => by
    simp only [par]
    rw [Nat.pow_succ, show 2 ^ i * 2 % 2 = 0 from by omega, show 2 ^ i * 2 / 2 = 2 ^ i from by omega, par_bit f i (by omega)]

/-- From c on, none of n steps comes to 1, and they end at e. -/
def far : Nat → Nat → Nat → Bool
  | 0, c, e => c == e
  | n + 1, c, e => match (c / 2 ^^^ c % 2 * 2197175160) == 1 with
    | true => false
    | false => far n (c / 2 ^^^ c % 2 * 2197175160) e
theorem far_ne : ∀ (n c e : Nat), far n c e = true → (∀ d, 0 < d → d ≤ n → it d c ≠ 1) ∧ it n c = e
  | 0, c, e, h => ⟨fun d h0 h1 => by omega, by simpa [far, it] using h⟩
  | n + 1, c, e, h => by
    rw [far] at h
    split at h
    · cases h
    · next hc =>
      have ih := far_ne n _ e h
      refine ⟨fun d h0 h1 => ?_, ih.2⟩
      cases d with
      | zero => omega
      | succ d =>
        rw [it]
        cases d with
        | zero => simpa [it, stp] using hc
        | succ d => exact ih.1 (d + 1) (by omega) (by omega)
def Upto (n e : Nat) : Prop := (∀ d, 0 < d → d ≤ n → it d 1 ≠ 1) ∧ it n 1 = e
theorem upto_more {n e f : Nat} (h : Upto n e) (hf : far 1024 e f = true) : Upto (n + 1024) f := by
  have h2 := far_ne 1024 e f hf
  refine ⟨fun d h0 h1 => ?_, by rw [it_add, h.2]; exact h2.2⟩
  rcases Nat.lt_or_ge n d with hd | hd
  · rw [show d = n + (d - n) from by omega, it_add, h.2]
    exact h2.1 (d - n) (by omega) (by omega)
  · exact h.1 d h0 hd
theorem upto_0 : Upto 0 1 := ⟨fun d h0 h1 => by omega, rfl⟩
theorem upto_1 : Upto 1024 1771228834 := upto_more upto_0 (by decide +kernel)
theorem upto_2 : Upto 2048 3702618788 := upto_more upto_1 (by decide +kernel)
theorem upto_3 : Upto 3072 11282895 := upto_more upto_2 (by decide +kernel)
theorem upto_4 : Upto 4096 3178201592 := upto_more upto_3 (by decide +kernel)
theorem upto_5 : Upto 5120 1297520444 := upto_more upto_4 (by decide +kernel)
theorem upto_6 : Upto 6144 2375439644 := upto_more upto_5 (by decide +kernel)
theorem upto_7 : Upto 7168 3708241038 := upto_more upto_6 (by decide +kernel)
theorem upto_8 : Upto 8192 4264641112 := upto_more upto_7 (by decide +kernel)
theorem upto_9 : Upto 9216 1672384998 := upto_more upto_8 (by decide +kernel)
theorem upto_10 : Upto 10240 1955735041 := upto_more upto_9 (by decide +kernel)
theorem upto_11 : Upto 11264 1850521136 := upto_more upto_10 (by decide +kernel)
theorem upto_12 : Upto 12288 502925845 := upto_more upto_11 (by decide +kernel)
theorem upto_13 : Upto 13312 368595539 := upto_more upto_12 (by decide +kernel)
theorem upto_14 : Upto 14336 3733624824 := upto_more upto_13 (by decide +kernel)
theorem upto_15 : Upto 15360 3673877116 := upto_more upto_14 (by decide +kernel)
theorem upto_16 : Upto 16384 4149242244 := upto_more upto_15 (by decide +kernel)
theorem upto_17 : Upto 17408 2942908889 := upto_more upto_16 (by decide +kernel)
theorem upto_18 : Upto 18432 1847728860 := upto_more upto_17 (by decide +kernel)
theorem upto_19 : Upto 19456 3927750375 := upto_more upto_18 (by decide +kernel)
theorem upto_20 : Upto 20480 3098967068 := upto_more upto_19 (by decide +kernel)
theorem upto_21 : Upto 21504 3856817104 := upto_more upto_20 (by decide +kernel)
theorem upto_22 : Upto 22528 2415052639 := upto_more upto_21 (by decide +kernel)
theorem upto_23 : Upto 23552 2934850786 := upto_more upto_22 (by decide +kernel)
theorem upto_24 : Upto 24576 3671759371 := upto_more upto_23 (by decide +kernel)
theorem upto_25 : Upto 25600 778524156 := upto_more upto_24 (by decide +kernel)
theorem upto_26 : Upto 26624 2997890085 := upto_more upto_25 (by decide +kernel)
theorem upto_27 : Upto 27648 3938062399 := upto_more upto_26 (by decide +kernel)
theorem upto_28 : Upto 28672 1761173275 := upto_more upto_27 (by decide +kernel)
theorem upto_29 : Upto 29696 703072131 := upto_more upto_28 (by decide +kernel)
theorem upto_30 : Upto 30720 941193457 := upto_more upto_29 (by decide +kernel)
theorem upto_31 : Upto 31744 2863890204 := upto_more upto_30 (by decide +kernel)
theorem upto_32 : Upto 32768 3265640030 := upto_more upto_31 (by decide +kernel)
/-- Within 32,768 steps a sum's one bit does not come back. -/
theorem order (d : Nat) (h0 : 0 < d) (h1 : d ≤ 32768) : it d 1 ≠ 1 := upto_32.1 d h0 h1

end Go.Proofs.YtodhljiboakjnaaGreat.Clep

/- Plain mathematics of the sums of texts: a sum as one number's steps; what is sealed; bits that are turned are found. No conditions. -/
namespace Go.Proofs.YtodhljiboakjnaaGreat.Clep
set_option linter.unusedVariables false
set_option maxRecDepth 10000

def ByteL (zs : List Int) : Prop := ∀ z ∈ zs, 0 ≤ z ∧ z < 256
theorem ByteL.tail {z : Int} {zs : List Int} (h : ByteL (z :: zs)) : ByteL zs := fun y hy => h y (List.mem_cons_of_mem _ hy)
theorem ByteL.head {z : Int} {zs : List Int} (h : ByteL (z :: zs)) : 0 ≤ z ∧ z < 256 := h z (by simp)

theorem xor_join (i x y : Nat) (hy : y < 2 ^ i) : 2 ^ i * x ^^^ y = 2 ^ i * x + y := by
  apply Nat.eq_of_testBit_eq
  intro j
  rw [Nat.testBit_xor, Nat.testBit_two_pow_mul, Nat.testBit_two_pow_mul_add _ hy]
  by_cases h : j < i
  · have h' : ¬ i ≤ j := by omega
    simp [h, h']
  · have : y.testBit j = false := Nat.testBit_lt_two_pow (Nat.lt_of_lt_of_le hy (Nat.pow_le_pow_right (by omega) (by omega)))
    simp [h, this]
    omega

/-- A text's bytes as one number, the first byte lowest. -/
def nn : List Int → Nat
  | [] => 0
  | c :: r => 256 * nn r + c.toNat
/-- A sum's bits over a text. -/
def cr : List Int → Nat → Nat
  | [], c => c
  | z :: r, c => cr r (it 8 (c ^^^ z.toNat))
def ones : Nat := 4294967295
/-- The sum of a text. -/
def crc (zs : List Int) : Nat := cr zs ones ^^^ ones

theorem it8_join (c x : Nat) : it 8 (256 * x ^^^ c) = x ^^^ it 8 c := by
  have := it_shift 8 x
  rw [it_xor, show 256 * x = 2 ^ 8 * x from rfl, this]
theorem cr_nn : ∀ (zs : List Int) (c : Nat), ByteL zs → cr zs c = it (8 * zs.length) (c ^^^ nn zs)
  | [], c, _ => by simp [cr, nn, it]
  | z :: r, c, h => by
    have hz := h.head
    rw [cr, cr_nn r _ h.tail]
    simp only [List.length_cons, nn]
    rw [show 8 * (r.length + 1) = 8 + 8 * r.length from by omega, it_add]
    have e : 256 * nn r + z.toNat = 256 * nn r ^^^ z.toNat := (xor_join 8 (nn r) z.toNat (by omega)).symm
    rw [e, show c ^^^ (256 * nn r ^^^ z.toNat) = 256 * nn r ^^^ (c ^^^ z.toNat) from by ac_rfl, it8_join, Nat.xor_comm (nn r)]
theorem cr_append : ∀ (xs ys : List Int) (c : Nat), cr (xs ++ ys) c = cr ys (cr xs c)
  | [], ys, c => rfl
  | x :: xs, ys, c => by rw [List.cons_append, cr, cr_append xs]; rfl
theorem cr_snoc (xs : List Int) (z : Int) (c : Nat) : cr (xs ++ [z]) c = it 8 (cr xs c ^^^ z.toNat) := by rw [cr_append]; rfl
theorem cr_lt : ∀ (zs : List Int) (c : Nat), ByteL zs → c < 4294967296 → cr zs c < 4294967296
  | [], c, _, h => h
  | z :: r, c, hz, h => by
    have := hz.head
    exact cr_lt r _ hz.tail (it_lt 8 _ (Nat.xor_lt_two_pow (n := 32) h (by omega)))
theorem ones_lt : ones < 4294967296 := by decide
theorem crc_lt (zs : List Int) (h : ByteL zs) : crc zs < 4294967296 := Nat.xor_lt_two_pow (n := 32) (cr_lt zs ones h ones_lt) ones_lt
theorem not_xor (a : Nat) (ha : a < 4294967296) : a ^^^ 4294967295 = 4294967295 - a := by
  have h : (BitVec.ofNat 32 a ^^^ BitVec.allOnes 32).toNat = (~~~ BitVec.ofNat 32 a).toNat := by rw [BitVec.xor_allOnes]
  rw [BitVec.toNat_not, BitVec.toNat_xor, BitVec.toNat_allOnes, BitVec.toNat_ofNat, Nat.mod_eq_of_lt (by omega)] at h
  simpa using h
theorem crc_sub (zs : List Int) (h : ByteL zs) : (crc zs : Int) = 4294967295 - (cr zs 4294967295 : Int) := by
  have hl := cr_lt zs ones h ones_lt
  unfold crc
  rw [show ones = 4294967295 from rfl] at *
  rw [not_xor _ hl]; omega

/-- A step by the table. -/
theorem tab_step (c z : Nat) (hz : z < 256) : c / 256 ^^^ it 8 (c % 256 ^^^ z) = it 8 (c ^^^ z) := by
  have e : c = 256 * (c / 256) ^^^ c % 256 := by
    have := xor_join 8 (c / 256) (c % 256) (by omega)
    rw [show (2 : Nat) ^ 8 = 256 from rfl] at this
    rw [this]; omega
  have h := it8_join (c % 256 ^^^ z) (c / 256)
  rw [← Nat.xor_assoc, ← e] at h
  exact h.symm

theorem nn_lt : ∀ (zs : List Int), ByteL zs → nn zs < 2 ^ (8 * zs.length)
  | [], _ => by simp [nn]
  | z :: r, h => by
    have hz := h.head
    have ih := nn_lt r h.tail
    simp only [List.length_cons, nn]
    rw [show 8 * (r.length + 1) = 8 * r.length + 8 from by omega, Nat.pow_add]
    generalize (2 : Nat) ^ (8 * r.length) = p at *
    omega
theorem nn_append : ∀ (xs ys : List Int), nn (xs ++ ys) = 2 ^ (8 * xs.length) * nn ys + nn xs
  | [], ys => by simp [nn]
  | x :: xs, ys => by
    simp only [List.cons_append, nn, nn_append xs ys, List.length_cons]
    rw [show 8 * (xs.length + 1) = 8 + 8 * xs.length from by omega, Nat.pow_add, show (2 : Nat) ^ 8 = 256 from rfl, Nat.mul_add, Nat.mul_assoc]
    omega
theorem nn_inj : ∀ (xs ys : List Int), xs.length = ys.length → ByteL xs → ByteL ys → nn xs = nn ys → xs = ys
  | [], [], _, _, _, _ => rfl
  | [], _ :: _, h, _, _, _ => by simp at h
  | _ :: _, [], h, _, _, _ => by simp at h
  | x :: xs, y :: ys, hl, hx, hy, h => by
    simp only [nn] at h
    have h1 := hx.head
    have h2 := hy.head
    rw [nn_inj xs ys (by simpa using hl) hx.tail hy.tail (by omega), show x = y from by omega]

/-- Four bytes of a number, the lowest first. -/
def le4 (t : Nat) (k : Nat) : List Int := (List.range k).map fun i => ((t / 2 ^ (8 * i) % 256 : Nat) : Int)
theorem le4_succ (t k : Nat) : le4 t (k + 1) = le4 t k ++ [((t / 2 ^ (8 * k) % 256 : Nat) : Int)] := by simp [le4, List.range_succ]
theorem le4_len (t k : Nat) : (le4 t k).length = k := by simp [le4]
theorem le4_range (t k : Nat) : ByteL (le4 t k) := by
  intro z hz
  simp only [le4, List.mem_map] at hz
  obtain ⟨i, _, rfl⟩ := hz
  omega
theorem nn_le4 (t : Nat) (h : t < 4294967296) : nn (le4 t 4) = t := by
  simp only [le4, List.range, List.range.loop, List.map, nn, Int.toNat_natCast]
  simp only [show (2 : Nat) ^ (8 * 0) = 1 from rfl, show (2 : Nat) ^ (8 * 1) = 256 from rfl, show (2 : Nat) ^ (8 * 2) = 65536 from rfl, show (2 : Nat) ^ (8 * 3) = 16777216 from rfl]
  omega
theorem ByteL.append {a b : List Int} (ha : ByteL a) (hb : ByteL b) : ByteL (a ++ b) := cat_range ha hb

/-- A sum over a text and four bytes more. -/
theorem cr_four (xs ys : List Int) (hy : ByteL ys) (hl : ys.length = 4) (c : Nat) : cr (xs ++ ys) c = it 32 (cr xs c ^^^ nn ys) := by
  rw [cr_append, cr_nn ys _ hy, hl]

/-- What Seal answers. -/
def sl (zs : List Int) : List Int := zs ++ le4 (crc zs) 4
theorem sl_len (zs : List Int) : (sl zs).length = zs.length + 4 := by simp [sl, le4_len]
theorem sl_range (zs : List Int) (h : ByteL zs) : ByteL (sl zs) := h.append (le4_range _ _)

/-- SumRest. -/
theorem crc_sealed (zs : List Int) (h : ByteL zs) : crc (sl zs) = crc [0, 0, 0, 0] := by
  have e : cr (sl zs) ones = it 32 ones := by
    rw [sl, cr_four _ _ (le4_range _ _) (le4_len _ _), nn_le4 _ (crc_lt zs h)]
    unfold crc
    rw [← Nat.xor_assoc, Nat.xor_self, Nat.zero_xor]
  have e2 : cr [0, 0, 0, 0] ones = it 32 ones := by
    have := cr_four [] [0, 0, 0, 0] (by intro z hz; simp at hz; omega) rfl ones
    simpa [cr, nn] using this
  unfold crc
  rw [e, e2]
/-- SumLast. -/
theorem crc_last (zs : List Int) (h : ByteL zs) (x y : Nat) (hx : x < 4294967296) (hy : y < 4294967296) : crc (zs ++ le4 x 4) = crc (zs ++ le4 y 4) ↔ x = y := by
  refine ⟨fun e => ?_, fun e => by rw [e]⟩
  unfold crc at e
  rw [cr_four _ _ (le4_range _ _) (le4_len _ _), cr_four _ _ (le4_range _ _) (le4_len _ _), nn_le4 _ hx, nn_le4 _ hy] at e
  have e1 : it 32 (cr zs ones ^^^ x) = it 32 (cr zs ones ^^^ y) := by
    have := congrArg (· ^^^ ones) e
    simpa [Nat.xor_assoc] using this
  have hc := cr_lt zs ones h ones_lt
  have e2 := it_inj 32 _ _ (Nat.xor_lt_two_pow (n := 32) hc hx) (Nat.xor_lt_two_pow (n := 32) hc hy) e1
  have := congrArg (cr zs ones ^^^ ·) e2
  simpa [← Nat.xor_assoc] using this

/-- A sealed text's sum stands behind it. -/
def good (s : List Int) (n : Nat) : Prop := nn (s.drop n) = crc (s.take n)
theorem ByteL.take {s : List Int} (h : ByteL s) (n : Nat) : ByteL (s.take n) := fun z hz => h z (List.mem_of_mem_take hz)
theorem ByteL.drop {s : List Int} (h : ByteL s) (n : Nat) : ByteL (s.drop n) := fun z hz => h z (List.mem_of_mem_drop hz)
theorem good_iff (s : List Int) (n : Nat) (h : ByteL s) (hl : s.length = n + 4) : good s n ↔ it (8 * (n + 4)) (ones ^^^ nn s) = it 32 ones := by
  have e : cr s ones = it 32 (cr (s.take n) ones ^^^ nn (s.drop n)) := by
    have := cr_four (s.take n) (s.drop n) (h.drop n) (by simp; omega) ones
    rwa [List.take_append_drop] at this
  rw [cr_nn s ones h, hl] at e
  rw [e]
  have hc := cr_lt (s.take n) ones (h.take n) ones_lt
  have hd : nn (s.drop n) < 4294967296 := by
    have := nn_lt _ (h.drop n)
    rw [show (s.drop n).length = 4 from by simp; omega] at this
    exact this
  unfold good crc
  constructor
  · intro g; rw [g, ← Nat.xor_assoc, Nat.xor_self, Nat.zero_xor]
  · intro g
    have := it_inj 32 _ _ (Nat.xor_lt_two_pow (n := 32) hc hd) ones_lt g
    have := congrArg (cr (s.take n) ones ^^^ ·) this
    simpa [← Nat.xor_assoc] using this
theorem good_sl (zs : List Int) (h : ByteL zs) : good (sl zs) zs.length := by
  unfold good sl
  rw [List.drop_left, List.take_left, nn_le4 _ (crc_lt zs h)]
/-- Of a text that is good, one that is turned by e is good just if e's steps come to nothing. -/
theorem good_turn (s s' : List Int) (n e : Nat) (h : ByteL s) (h' : ByteL s') (hl : s.length = n + 4) (hl' : s'.length = n + 4) (g : good s n) (he : nn s' = nn s ^^^ e) :
    good s' n ↔ it (8 * (n + 4)) e = 0 := by
  rw [good_iff s' n h' hl', he, ← Nat.xor_assoc, it_xor, (good_iff s n h hl).1 g]
  constructor
  · intro q
    have := congrArg (it 32 ones ^^^ ·) q
    simpa [← Nat.xor_assoc] using this
  · intro q; rw [q, Nat.xor_zero]

/-- Up to three bits. -/
theorem bit_found (m i : Nat) (hi : i < m) : it m (2 ^ i) ≠ 0 := by
  intro h
  have := par_it m (2 ^ i)
  rw [h, par_zero, par_bit _ _ (by omega)] at this
  cases this
theorem three_found (m i j k : Nat) (hi : i < m) (hj : j < m) (hk : k < m) : it m (2 ^ i ^^^ 2 ^ j ^^^ 2 ^ k) ≠ 0 := by
  intro h
  have := par_it m (2 ^ i ^^^ 2 ^ j ^^^ 2 ^ k)
  rw [h, par_zero, par_xor, par_xor, par_bit _ i (by omega), par_bit _ j (by omega), par_bit _ k (by omega)] at this
  cases this
theorem two_lt (m i j : Nat) (hi : i < j) (hj : j < m) (hm : m ≤ 32768) : it m (2 ^ i ^^^ 2 ^ j) ≠ 0 := by
  intro h
  rw [it_xor] at h
  have h1 := it_far m i 1 (by omega)
  have h2 := it_far m j 1 (by omega)
  rw [Nat.mul_one] at h1 h2
  have h := xor_eq_zero h
  rw [h1, h2, show m - i = j - i + (m - j) from by omega, it_add] at h
  exact order (j - i) (by omega) (by omega) (it_inj (m - j) _ _ (it_lt _ _ (by decide)) (by decide) h)
theorem two_found (m i j : Nat) (hi : i < m) (hj : j < m) (hm : m ≤ 32768) (hne : i ≠ j) : it m (2 ^ i ^^^ 2 ^ j) ≠ 0 := by
  rcases Nat.lt_or_ge i j with h | h
  · exact two_lt m i j h hj hm
  · rw [Nat.xor_comm]; exact two_lt m j i (by omega) hi hm
/-- Bits within 32 in a row. -/
theorem burst_found (m k e : Nat) (hk : k ≤ m) (he : e < 4294967296) (h0 : e ≠ 0) : it m (2 ^ k * e) ≠ 0 := by
  rw [it_far m k e hk]
  exact fun h => h0 (it_ne _ _ he h)

/-- A text with the bit at p turned. -/
def flip (s : List Int) (p : Nat) : List Int := s.set (p / 8) (((s.getD (p / 8) 0).toNat ^^^ 2 ^ (p % 8) : Nat) : Int)
theorem flip_len (s : List Int) (p : Nat) : (flip s p).length = s.length := by simp [flip]
theorem flip_range (s : List Int) (p : Nat) (h : ByteL s) : ByteL (flip s p) := by
  intro z hz
  rcases List.mem_or_eq_of_mem_set hz with hz | rfl
  · exact h z hz
  · have h1 := range_of h (p / 8)
    have h2 : (2 : Nat) ^ (p % 8) < 2 ^ 8 := Nat.pow_lt_pow_right (by omega) (by omega)
    have := Nat.xor_lt_two_pow (n := 8) (x := (s.getD (p / 8) 0).toNat) (y := 2 ^ (p % 8)) (by omega) h2
    omega
theorem nn_flip : ∀ (s : List Int) (p : Nat), ByteL s → p < 8 * s.length → nn (flip s p) = nn s ^^^ 2 ^ p
  | [], p, _, hp => by simp at hp
  | z :: r, p, h, hp => by
    have hz := h.head
    simp only [List.length_cons] at hp
    by_cases h8 : p < 8
    · have e1 : p / 8 = 0 := by omega
      have e2 : p % 8 = p := by omega
      have h2 : (2 : Nat) ^ p < 2 ^ 8 := Nat.pow_lt_pow_right (by omega) (by omega)
      have h3 := Nat.xor_lt_two_pow (n := 8) (x := z.toNat) (y := 2 ^ p) (by omega) h2
      simp only [flip, e1, e2, List.set_cons_zero, nn, List.getD_cons_zero, Int.toNat_natCast]
      have a1 := xor_join 8 (nn r) z.toNat (by omega)
      have a2 := xor_join 8 (nn r) (z.toNat ^^^ 2 ^ p) h3
      rw [show (2 : Nat) ^ 8 = 256 from rfl] at a1 a2
      rw [← a1, ← a2, Nat.xor_assoc]
    · obtain ⟨q, rfl⟩ : ∃ q, p = q + 8 := ⟨p - 8, by omega⟩
      have ih := nn_flip r q h.tail (by omega)
      have e1 : (q + 8) / 8 = q / 8 + 1 := by omega
      have e2 : (q + 8) % 8 = q % 8 := by omega
      have ef : flip (z :: r) (q + 8) = z :: flip r q := by
        simp only [flip, e1, e2, List.set_cons_succ, List.getD_cons_succ]
      rw [ef]
      simp only [nn, ih]
      have a1 := xor_join 8 (nn r) z.toNat (by omega)
      have a2 := xor_join 8 (nn r ^^^ 2 ^ q) z.toNat (by omega)
      rw [show (2 : Nat) ^ 8 = 256 from rfl] at a1 a2
      have a3 : 256 * (nn r ^^^ 2 ^ q) = 256 * nn r ^^^ 2 ^ (q + 8) := by
        rw [Nat.pow_add, show (2 : Nat) ^ 8 = 256 from rfl, Nat.mul_comm (2 ^ q)]
        have := Nat.shiftLeft_xor_distrib (a := nn r) (b := 2 ^ q) (i := 8)
        simpa [Nat.shiftLeft_eq, Nat.mul_comm] using this
      rw [← a1, ← a2, a3, Nat.xor_assoc, Nat.xor_assoc, Nat.xor_comm (2 ^ (q + 8))]

/-- SumParts: sums of texts of one length lie over each other as the texts do. -/
theorem nn_xor3 : ∀ (a b c d : List Int), a.length = d.length → b.length = d.length → c.length = d.length → ByteL a → ByteL b → ByteL c → ByteL d →
    (∀ i, i < d.length → (d.getD i 0).toNat = (a.getD i 0).toNat ^^^ (b.getD i 0).toNat ^^^ (c.getD i 0).toNat) → nn d = nn a ^^^ nn b ^^^ nn c
  | [], [], [], [], _, _, _, _, _, _, _, _ => by simp [nn]
  | x :: a, y :: b, z :: c, u :: d, h1, h2, h3, ha, hb, hc, hd, h => by
    simp only [List.length_cons] at h1 h2 h3 h
    have ih := nn_xor3 a b c d (by omega) (by omega) (by omega) ha.tail hb.tail hc.tail hd.tail (fun i hi => by have := h (i + 1) (by omega); simpa using this)
    have h0 : u.toNat = x.toNat ^^^ y.toNat ^^^ z.toNat := by have := h 0 (by omega); simpa using this
    have hx := ha.head
    have hy := hb.head
    have hz := hc.head
    have hu := hd.head
    have a1 := xor_join 8 (nn a) x.toNat (by omega)
    have a2 := xor_join 8 (nn b) y.toNat (by omega)
    have a3 := xor_join 8 (nn c) z.toNat (by omega)
    have a4 := xor_join 8 (nn a ^^^ nn b ^^^ nn c) u.toNat (by omega)
    have a5 : 2 ^ 8 * (nn a ^^^ nn b ^^^ nn c) = 2 ^ 8 * nn a ^^^ 2 ^ 8 * nn b ^^^ 2 ^ 8 * nn c := by
      have p := Nat.shiftLeft_xor_distrib (a := nn a ^^^ nn b) (b := nn c) (i := 8)
      have q := Nat.shiftLeft_xor_distrib (a := nn a) (b := nn b) (i := 8)
      rw [q] at p
      simpa [Nat.shiftLeft_eq, Nat.mul_comm] using p
    simp only [show (2 : Nat) ^ 8 = 256 from rfl] at a1 a2 a3 a4 a5
    simp only [nn, ih]
    rw [← a1, ← a2, ← a3, ← a4, a5, h0]
    ac_rfl
  | [], [], _ :: _, [], _, _, h, _, _, _, _, _ => by simp at h
  | [], _ :: _, _, [], _, h, _, _, _, _, _, _ => by simp at h
  | _ :: _, _, _, [], h, _, _, _, _, _, _, _ => by simp at h
  | [], _, _, _ :: _, h, _, _, _, _, _, _, _ => by simp at h
  | _ :: _, [], _, _ :: _, _, h, _, _, _, _, _, _ => by simp at h
  | _ :: _, _ :: _, [], _ :: _, _, _, h, _, _, _, _, _ => by simp at h
theorem crc_xor3 (a b c d : List Int) (h1 : a.length = d.length) (h2 : b.length = d.length) (h3 : c.length = d.length) (ha : ByteL a) (hb : ByteL b) (hc : ByteL c) (hd : ByteL d)
    (h : ∀ i, i < d.length → (d.getD i 0).toNat = (a.getD i 0).toNat ^^^ (b.getD i 0).toNat ^^^ (c.getD i 0).toNat) : crc a ^^^ crc b ^^^ crc c ^^^ crc d = 0 := by
  have e := nn_xor3 a b c d h1 h2 h3 ha hb hc hd h
  unfold crc
  rw [cr_nn a _ ha, cr_nn b _ hb, cr_nn c _ hc, cr_nn d _ hd, h1, h2, h3, e]
  have e2 : ∀ m A B C : Nat, it m (ones ^^^ A) ^^^ ones ^^^ (it m (ones ^^^ B) ^^^ ones) ^^^ (it m (ones ^^^ C) ^^^ ones) ^^^ (it m (ones ^^^ (A ^^^ B ^^^ C)) ^^^ ones) = 0 := by
    intro m A B C
    simp only [it_xor]
    have : ∀ o p q r s : Nat, (o ^^^ p) ^^^ s ^^^ ((o ^^^ q) ^^^ s) ^^^ ((o ^^^ r) ^^^ s) ^^^ ((o ^^^ (p ^^^ q ^^^ r)) ^^^ s) = 0 := by
      intro o p q r s
      apply Nat.eq_of_testBit_eq
      intro i
      simp only [Nat.testBit_xor, Nat.zero_testBit]
      cases o.testBit i <;> cases p.testBit i <;> cases q.testBit i <;> cases r.testBit i <;> cases s.testBit i <;> rfl
    exact this _ _ _ _ _
  exact e2 _ _ _ _

end Go.Proofs.YtodhljiboakjnaaGreat.Clep

/- Bits that are turned in a sealed text. No conditions but the kinds' own bounds. -/
namespace Go.Proofs.YtodhljiboakjnaaGreat.Clep
open Go.RowKit
set_option linter.unusedVariables false
set_option maxRecDepth 10000

/-- What the bits at the first m of the places come to. -/
def turnE (ps : List Nat) (m : Nat) : Nat := (ps.take m).foldl (fun e p => e ^^^ 2 ^ p) 0
theorem turnE_succ (ps : List Nat) (m : Nat) (h : m < ps.length) : turnE ps (m + 1) = turnE ps m ^^^ 2 ^ ps.getD m 0 := by
  unfold turnE
  rw [List.take_succ_eq_append_getElem h, List.foldl_append]
  simp [List.getD, List.getElem?_eq_getElem h]

theorem pick3 (P0 P1 P2 B : Nat) (h0 : P0 < B) (h1 : P1 < B) (h2 : P2 < B) : ∀ M, M < 3 → [P0, P1, P2].getD M 0 < B
  | 0, _ => h0
  | 1, _ => h1
  | 2, _ => h2
/-- How it stands behind m turns. -/
def BitSt (w : World) (g c1 L g2 c2 A : Nat) (s0 : List Int) (ps : List Nat) (m : Nat) (wr : World) : Prop :=
  (∃ ys, Own wr w.heap.size (.slice (some ⟨g, 0, none⟩) L c1) ys ∧ ys.length = L ∧ ByteL ys ∧ nn ys = nn s0 ^^^ turnE ps m) ∧ Bs wr (some ⟨g2, 0, none⟩) L c2 s0 ∧
    (∀ i, i < 3 → wr.cell? ⟨A, i, none⟩ = some (.int .i64 (ps.getD i 0 : Nat))) ∧ Below w.heap.size w wr

theorem turn_byte (z : Int) (r : Nat) (hz : 0 ≤ z ∧ z < 256) (hr : r < 8) : bits BinOp.xor IntKind.u8 z (2 ^ r % 256) = ((z.toNat ^^^ 2 ^ r : Nat) : Int) := by
  obtain ⟨Z, rfl⟩ := Int.eq_ofNat_of_zero_le hz.1
  have h2 : (2 : Nat) ^ r < 2 ^ 8 := Nat.pow_lt_pow_right (by omega) (by omega)
  have e : (2 : Int) ^ r = ((2 ^ r : Nat) : Int) := by push_cast; rfl
  rw [e]
  generalize (2 : Nat) ^ r = T at *
  rw [show (T : Int) % 256 = (T : Int) from by omega, u8_xor_nat _ _ (by omega) (by omega)]
  rfl
theorem bv_flip (ys : List Int) (P : Nat) (hyb : ByteL ys) : (bv ys).set (P / 8) (.int .u8 (bits BinOp.xor IntKind.u8 (ys.getD (P / 8) 0) (2 ^ (P % 8) % 256))) = bv (flip ys P) := by
  rw [turn_byte _ _ (range_of hyb (P / 8)) (by omega)]
  unfold flip bv
  rw [List.map_set]

theorem bitst_step {w wr : World} {g c1 L g2 c2 A : Nat} {s0 : List Int} {ps : List Nat} {M : Nat} {ys : List Int} (hown : wr.ownsRow w.heap.size 5 1 (.slice (some ⟨g, 0, none⟩) L c1) L (bv ys)) (hyl : ys.length = L) (hyb : ByteL ys)
    (hyn : nn ys = nn s0 ^^^ turnE ps M) (htt : Bs wr (some ⟨g2, 0, none⟩) L c2 s0) (hat : ∀ i, i < 3 → wr.cell? ⟨A, i, none⟩ = some (.int .i64 (ps.getD i 0 : Nat))) (hbel : Below w.heap.size w wr)
    (hM : M < ps.length) (P : Nat) (hP : P = ps.getD M 0) (hPl : P < 8 * L) (hgA : g ≠ A) (hgg : g ≠ g2) :
    BitSt w g c1 L g2 c2 A s0 ps (M + 1) ((wr.setCell ⟨g, P / 8, none⟩ (.int .u8 (bits BinOp.xor IntKind.u8 (ys.getD (P / 8) 0) (2 ^ (P % 8) % 256)))).drew) := by
  obtain ⟨h1, h2⟩ := hown.stored (P / 8) (.int .u8 (bits BinOp.xor IntKind.u8 (ys.getD (P / 8) 0) (2 ^ (P % 8) % 256)))
  rw [bv_flip ys P hyb] at h1
  refine ⟨⟨flip ys P, ?_, by rw [flip_len, hyl], flip_range ys P hyb, ?_⟩, ?_, ?_, ?_⟩
  · unfold Own
    rw [flip_len, hyl]
    exact h1.drew
  · rw [nn_flip ys P hyb (by rw [hyl]; exact hPl), hyn, turnE_succ ps M hM, ← hP, Nat.xor_assoc]
  · refine ⟨htt.1, htt.2.1, htt.2.2.1, fun h0 => ?_⟩
    obtain ⟨b, off, ho, hc⟩ := htt.2.2.2 h0
    refine ⟨b, off, ho, fun i hi => ?_⟩
    cases ho
    exact h2.cell (hc i hi) (by intro h; cases h; exact hgg rfl)
  · intro i hi
    exact h2.cell (hat i hi) (by intro h; cases h; exact hgA rfl)
  · exact (hbel.grown h2 hbel.size (fun k hk => by cases hk; exact (World.ownsRow.lt hown g rfl).1)).drew

/-- Up to three bits that were turned are found, or nothing was turned. -/
theorem bits_final (zs ys : List Int) (n : Nat) (hz : ByteL zs) (hn : zs.length = n) (hyl : ys.length = n + 4) (hyb : ByteL ys) (P0 P1 P2 N : Nat) (hN : N < 3) (h0 : P0 < 8 * (n + 4)) (h1 : P1 < 8 * (n + 4)) (h2 : P2 < 8 * (n + 4)) (hm : n ≤ 4088)
    (hyn : nn ys = nn (sl zs) ^^^ turnE [P0, P1, P2] (N + 1)) : ys = sl zs ∨ (ys ≠ sl zs ∧ ¬ good ys n) := by
  subst hn
  have hgt := good_turn (sl zs) ys zs.length _ (sl_range zs hz) hyb (sl_len zs) hyl (good_sl zs hz) hyn
  have key : turnE [P0, P1, P2] (N + 1) = 0 ∨ it (8 * (zs.length + 4)) (turnE [P0, P1, P2] (N + 1)) ≠ 0 := by
    match N, hN with
    | 0, _ =>
      right
      have := bit_found _ P0 h0
      simpa [turnE] using this
    | 1, _ =>
      by_cases he : P0 = P1
      · left; subst he; simp [turnE]
      · right
        have := two_found _ P0 P1 h0 h1 (by omega) he
        simpa [turnE] using this
    | 2, _ =>
      right
      have := three_found _ P0 P1 P2 h0 h1 h2
      simpa [turnE] using this
  rcases key with k | k
  · left
    rw [k, Nat.xor_zero] at hyn
    exact nn_inj _ _ (by rw [hyl, sl_len]) hyb (sl_range zs hz) hyn
  · right
    refine ⟨fun e => ?_, fun g => k (hgt.1 g)⟩
    rw [e] at hyn
    have h3 := congrArg (nn (sl zs) ^^^ ·) hyn
    simp only [← Nat.xor_assoc, Nat.xor_self, Nat.zero_xor] at h3
    exact k (by rw [← h3, it_zero])

end Go.Proofs.YtodhljiboakjnaaGreat.Clep
