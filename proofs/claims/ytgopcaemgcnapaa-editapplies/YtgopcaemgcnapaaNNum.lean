/- Plain mathematics of numbers as bytes: what Put, Take, Sign, Unsign of package num come to; what is put is taken again. No conditions. -/
import Derived.Test.YtgopcaemgcnapaaBase
namespace Go.Proofs.Ytgopcaemgcnapaa.Clep
open Go.RowKit
set_option linter.unusedVariables false
set_option maxRecDepth 10000

def sgn (n : Int) : Int := if n < 0 then -2 * n - 1 else 2 * n
def usgn (n : Int) : Int := if n % 2 = 1 then -(n / 2) - 1 else n / 2
theorem sgn_range (n : Int) (h0 : -9223372036854775808 ≤ n) (h1 : n ≤ 9223372036854775807) : 0 ≤ sgn n ∧ sgn n ≤ 18446744073709551615 := by
  unfold sgn; split <;> omega
theorem usgn_range (n : Int) (h0 : 0 ≤ n) (h1 : n ≤ 18446744073709551615) : -9223372036854775808 ≤ usgn n ∧ usgn n ≤ 9223372036854775807 := by
  unfold usgn; split <;> omega
theorem usgn_sgn (n : Int) : usgn (sgn n) = n := by
  unfold usgn sgn; split <;> split <;> omega
theorem sgn_usgn (n : Int) (h0 : 0 ≤ n) : sgn (usgn n) = n := by
  unfold usgn sgn; split <;> split <;> omega
theorem sign_bits (n : Int) (h0 : -9223372036854775808 ≤ n) (h1 : n ≤ 9223372036854775807) :
    bits BinOp.xor IntKind.u64 (IntKind.u64.wrap (IntKind.u64.wrap n * 2)) (IntKind.u64.wrap (n / 9223372036854775808)) = sgn n := by
  simp only [IntKind.wrap_u64]
  unfold sgn
  by_cases hn : n < 0
  · rw [if_pos hn]
    rw [show n / 9223372036854775808 % 18446744073709551616 = ((18446744073709551615 : Nat) : Int) from by omega,
      show n % 18446744073709551616 * 2 % 18446744073709551616 = (((2 * n + 18446744073709551616).toNat : Nat) : Int) from by omega,
      u64_xor_nat _ _ (by omega) (by omega), xor_all _ (by omega)]
    omega
  · rw [if_neg hn]
    rw [show n / 9223372036854775808 % 18446744073709551616 = ((0 : Nat) : Int) from by omega,
      show n % 18446744073709551616 * 2 % 18446744073709551616 = (((2 * n).toNat : Nat) : Int) from by omega,
      u64_xor_nat _ _ (by omega) (by omega), Nat.xor_zero]
    omega
theorem i64_xor (a b : Int) : bits .xor .i64 a b = IntKind.i64.wrap ((BitVec.ofInt 64 a ^^^ BitVec.ofInt 64 b).toNat : Int) := rfl
theorem i64_xor_ones (a : Nat) (ha : a < 9223372036854775808) : bits .xor .i64 (a : Int) (-1) = -1 - (a : Int) := by
  rw [i64_xor, show BitVec.ofInt 64 (-1) = BitVec.allOnes 64 from by decide, BitVec.xor_allOnes, BitVec.toNat_not, ofInt_u64 a (by omega)]
  simp [IntKind.wrap, IntKind.bits, IntKind.signed]
  omega
theorem i64_xor_zero (a : Nat) (ha : a < 9223372036854775808) : bits .xor .i64 (a : Int) 0 = (a : Int) := by
  rw [i64_xor, show BitVec.ofInt 64 0 = 0#64 from by decide, BitVec.xor_zero, ofInt_u64 a (by omega)]
  simp [IntKind.wrap, IntKind.bits, IntKind.signed]
  omega
theorem unsign_bits (n : Int) (h0 : 0 ≤ n) (h1 : n ≤ 18446744073709551615) :
    bits BinOp.xor IntKind.i64 (n / 2) (wrap64 (-wrap64 (bits BinOp.and IntKind.u64 n 1))) = usgn n := by
  have ha : bits BinOp.and IntKind.u64 n 1 = n % 2 := by
    rw [u64_and n 1 h0 (by omega) (by omega) (by omega), show (1 : Int).toNat = 1 from rfl, nat_mask1]
    omega
  rw [ha, show n / 2 = (((n / 2).toNat : Nat) : Int) from by omega]
  unfold usgn
  by_cases hn : n % 2 = 1
  · rw [if_pos hn, hn, show wrap64 (-wrap64 1) = -1 from by decide +kernel, i64_xor_ones _ (by omega)]
    omega
  · rw [if_neg hn, show n % 2 = 0 from by omega, show wrap64 (-wrap64 0) = 0 from by decide +kernel, i64_xor_zero _ (by omega)]
    omega
def tk : List Int → Nat → Int → Int × Int × Int
  | [], _, _ => (0, 0, 4)
  | c :: r, i, n => if i = 9 ∧ 1 < c then (0, 0, 3) else if 128 ≤ c then tk r (i + 1) (n + (c - 128) * 2 ^ (7 * i))
      else if c = 0 ∧ 0 < i then (0, 0, 3) else (n + c * 2 ^ (7 * i), (i : Int) + 1, 0)
theorem tk_end (zs : List Int) (k : Nat) (n : Int) (h : zs.length ≤ k) : tk (zs.drop k) k n = (0, 0, 4) := by
  rw [List.drop_eq_nil_of_le h]; rfl
theorem tk_over (zs : List Int) (k : Nat) (n : Int) (h : k < zs.length) (h9 : k = 9) (hc : 1 < zs.getD k 0) : tk (zs.drop k) k n = (0, 0, 3) := by
  rw [drop_get zs k h, tk, if_pos ⟨h9, hc⟩]
theorem tk_more (zs : List Int) (k : Nat) (n : Int) (h : k < zs.length) (h9 : k < 9) (hc : 128 ≤ zs.getD k 0) :
    tk (zs.drop k) k n = tk (zs.drop (k + 1)) (k + 1) (n + (zs.getD k 0 - 128) * 2 ^ (7 * k)) := by
  rw [drop_get zs k h, tk, if_neg (by omega), if_pos hc]
theorem tk_zero (zs : List Int) (k : Nat) (n : Int) (h : k < zs.length) (h0 : 0 < k) (hc : zs.getD k 0 = 0) : tk (zs.drop k) k n = (0, 0, 3) := by
  rw [drop_get zs k h, tk, if_neg (by omega), if_neg (by omega), if_pos ⟨hc, h0⟩]
theorem tk_last (zs : List Int) (k : Nat) (n : Int) (h : k < zs.length) (h9 : k = 9 → zs.getD k 0 ≤ 1) (hc : zs.getD k 0 < 128) (h0 : zs.getD k 0 = 0 → k = 0) :
    tk (zs.drop k) k n = (n + zs.getD k 0 * 2 ^ (7 * k), (k : Int) + 1, 0) := by
  rw [drop_get zs k h, tk, if_neg (by omega), if_neg (by omega), if_neg (by omega)]
theorem or_shift (N c : Int) (k : Nat) (hk : k ≤ 9) (hN : 0 ≤ N ∧ N < 2 ^ (7 * k)) (h0 : 0 ≤ c) (hc : c < 256) (h9 : k = 9 → c ≤ 1) :
    bits BinOp.or IntKind.u64 N (IntKind.u64.wrap (IntKind.u64.wrap (bits BinOp.andNot IntKind.u8 c 128) * 2 ^ (7 * k))) = N + (c % 128) * 2 ^ (7 * k) := by
  obtain ⟨C, rfl⟩ := Int.eq_ofNat_of_zero_le h0
  obtain ⟨M, rfl⟩ := Int.eq_ofNat_of_zero_le hN.1
  have e1 : bits BinOp.andNot IntKind.u8 (C : Int) 128 = ((C % 128 : Nat) : Int) := by
    rw [show (128 : Int) = ((128 : Nat) : Int) from rfl, u8_andNot_nat C 128 (by omega) (by omega), show 255 - 128 = 127 from rfl, nat_mask7]
  have hp : (2 : Nat) ^ (7 * k) ≤ 2 ^ 63 := Nat.pow_le_pow_right (by omega) (by omega)
  have hd : C % 128 * 2 ^ (7 * k) < 18446744073709551616 := by
    by_cases h : k = 9
    · subst h; have := h9 rfl; have hC : C ≤ 1 := by omega
      have : C % 128 ≤ 1 := by omega
      calc C % 128 * 2 ^ (7 * 9) ≤ 1 * 2 ^ (7 * 9) := Nat.mul_le_mul_right _ this
        _ < 18446744073709551616 := by decide
    · have hp' : (2 : Nat) ^ (7 * k) ≤ 2 ^ 56 := Nat.pow_le_pow_right (by omega) (by omega)
      calc C % 128 * 2 ^ (7 * k) ≤ 127 * 2 ^ 56 := Nat.mul_le_mul (by omega) hp'
        _ < 18446744073709551616 := by decide
  have hM : M < 2 ^ (7 * k) := by have := hN.2; exact_mod_cast this
  rw [e1, IntKind.wrap_u64, IntKind.wrap_u64]
  rw [show ((C % 128 : Nat) : Int) % 18446744073709551616 = ((C % 128 : Nat) : Int) from by omega,
    show ((C % 128 : Nat) : Int) * 2 ^ (7 * k) = ((C % 128 * 2 ^ (7 * k) : Nat) : Int) from by push_cast; rfl,
    show ((C % 128 * 2 ^ (7 * k) : Nat) : Int) % 18446744073709551616 = ((C % 128 * 2 ^ (7 * k) : Nat) : Int) from by omega,
    u64_or_nat M _ (by omega) hd, Nat.or_comm, nat_join (7 * k) _ _ (Nat.mul_mod_left _ _) hM]
  push_cast
  omega
theorem shift_lt (N c : Int) (k : Nat) (hN : 0 ≤ N ∧ N < 2 ^ (7 * k)) (h0 : 128 ≤ c) (hc : c < 256) : 0 ≤ N + (c - 128) * 2 ^ (7 * k) ∧ N + (c - 128) * 2 ^ (7 * k) < 2 ^ (7 * (k + 1)) := by
  obtain ⟨C, hC⟩ := Int.eq_ofNat_of_zero_le (show 0 ≤ c - 128 by omega)
  obtain ⟨M, rfl⟩ := Int.eq_ofNat_of_zero_le hN.1
  have hM : M < 2 ^ (7 * k) := by have := hN.2; exact_mod_cast this
  rw [hC, show ((M : Int) + (C : Int) * 2 ^ (7 * k)) = ((M + C * 2 ^ (7 * k) : Nat) : Int) from by push_cast; rfl]
  refine ⟨by omega, ?_⟩
  have h1 : C * 2 ^ (7 * k) ≤ 127 * 2 ^ (7 * k) := Nat.mul_le_mul_right _ (by omega)
  have h2 : (2 : Nat) ^ (7 * (k + 1)) = 128 * 2 ^ (7 * k) := by rw [show 7 * (k + 1) = 7 * k + 7 from by omega, Nat.pow_add]; omega
  have : M + C * 2 ^ (7 * k) < 2 ^ (7 * (k + 1)) := by omega
  exact_mod_cast this
theorem and_high (c : Int) (h0 : 0 ≤ c) (hc : c < 256) : (bits BinOp.and IntKind.u8 c 128 != 0) = decide (128 ≤ c) := by
  obtain ⟨C, rfl⟩ := Int.eq_ofNat_of_zero_le h0
  rw [show (128 : Int) = ((128 : Nat) : Int) from rfl, u8_and_nat C 128 (by omega) (by omega), show (128 : Nat) = 2 ^ 7 from rfl, nat_bit 7 C]
  by_cases h : 128 ≤ C
  · rw [show C / 2 ^ 7 % 2 = 1 from by omega]; simp; omega
  · rw [show C / 2 ^ 7 % 2 = 0 from by omega]; simp; omega
def enc : Nat → Int → List Int
  | 0, n => [n]
  | f + 1, n => if n < 128 then [n] else (n % 128 + 128) :: enc f (n / 128)
/-- What Put writes of n. -/
def pu (n : Int) : List Int := enc 9 n
theorem enc_small (f : Nat) (n : Int) (h : n < 128) : enc f n = [n] := by
  cases f with
  | zero => rfl
  | succ f => rw [enc, if_pos h]
theorem enc_big (f : Nat) (n : Int) (h : 128 ≤ n) : enc (f + 1) n = (n % 128 + 128) :: enc f (n / 128) := by
  rw [enc, if_neg (by omega)]
theorem fuel_step (f : Nat) (n : Int) (h0 : 128 ≤ n) (h : n < 128 ^ (f + 1)) : ∃ g, f = g + 1 ∧ n / 128 < 128 ^ (g + 1) := by
  cases f with
  | zero => exact absurd h (by simp; omega)
  | succ g =>
    refine ⟨g, rfl, ?_⟩
    have e : (128 : Int) ^ (g + 1 + 1) = 128 ^ (g + 1) * 128 := Int.pow_succ _ _
    rw [e] at h
    generalize (128 : Int) ^ (g + 1) = q at *
    omega
theorem u64_fuel (n : Int) (h : n ≤ 18446744073709551615) : n < 128 ^ (9 + 1) := by
  have : (128 : Int) ^ (9 + 1) = 1180591620717411303424 := by decide
  omega
theorem enc_len : ∀ (f : Nat) (n : Int), 1 ≤ (enc f n).length ∧ (enc f n).length ≤ f + 1
  | 0, n => by simp [enc]
  | f + 1, n => by
    have := enc_len f (n / 128)
    rw [enc]; split <;> simp; omega
theorem enc_range : ∀ (f : Nat) (n : Int), 0 ≤ n → n < 128 ^ (f + 1) → ∀ z ∈ enc f n, 0 ≤ z ∧ z < 256
  | 0, n, h0, h, z, hz => by simp [enc] at hz; subst hz; simp at h; omega
  | f + 1, n, h0, h, z, hz => by
    by_cases hs : n < 128
    · rw [enc_small _ _ hs] at hz; simp at hz; subst hz; omega
    · rw [enc_big _ _ (by omega)] at hz
      obtain ⟨g, hg, hlt⟩ := fuel_step (f + 1) n (by omega) h
      obtain rfl : f = g := by omega
      rcases List.mem_cons.1 hz with rfl | hz
      · omega
      · exact enc_range f (n / 128) (by omega) hlt z hz
theorem or_high (n : Int) (h0 : 0 ≤ n) : bits BinOp.or IntKind.u8 (IntKind.u8.wrap n) 128 = n % 128 + 128 := by
  rw [IntKind.wrap_u8']
  obtain ⟨N, rfl⟩ := Int.eq_ofNat_of_zero_le h0
  rw [show (128 : Int) = ((128 : Nat) : Int) from rfl, show ((N : Int) % 256) = ((N % 256 : Nat) : Int) from by omega, u8_or_nat _ _ (by omega) (by omega)]
  have h1 : N % 256 ||| 128 = N % 128 + 128 := by
    have hj : (128 : Nat) ||| N % 128 = 128 + N % 128 := nat_join 7 128 (N % 128) (by decide) (by omega)
    by_cases hb : N % 256 < 128
    · rw [show N % 256 = N % 128 from by omega, Nat.or_comm, hj]; omega
    · have h2 : (128 : Nat) ||| N % 128 = N % 256 := by rw [hj]; omega
      rw [← h2, Nat.or_comm, ← Nat.or_assoc, Nat.or_self, hj]; omega
  rw [h1]; omega
theorem pow7 (i : Nat) : (2 : Int) ^ (7 * (i + 1)) = 128 * 2 ^ (7 * i) := by
  rw [show 7 * (i + 1) = 7 * i + 7 from by omega, Int.pow_add]
  rw [Int.mul_comm]; rfl
theorem pow7_pos (i : Nat) : (0 : Int) < 2 ^ (7 * i) := Int.pow_pos (by omega)
/-- All of hi go on; the last one ends. -/
theorem enc_split : ∀ (f : Nat) (n : Int), 0 ≤ n → n < 128 ^ (f + 1) → ∃ hi last, enc f n = hi ++ [last] ∧ (∀ z ∈ hi, 128 ≤ z ∧ z < 256) ∧ 0 ≤ last ∧ last < 128 ∧ hi.length ≤ f
  | 0, n, h0, h => ⟨[], n, by simp [enc], by simp, h0, by simpa using h, by simp⟩
  | f + 1, n, h0, h => by
    by_cases hs : n < 128
    · exact ⟨[], n, by simp [enc_small _ _ hs], by simp, h0, hs, by simp⟩
    · obtain ⟨g, hg, hlt⟩ := fuel_step (f + 1) n (by omega) h
      obtain rfl : f = g := by omega
      obtain ⟨hi, last, e, hh, h1, h2, h3⟩ := enc_split f (n / 128) (by omega) hlt
      refine ⟨(n % 128 + 128) :: hi, last, by rw [enc_big _ _ (by omega), e]; rfl, ?_, h1, h2, by simp; omega⟩
      intro z hz
      rcases List.mem_cons.1 hz with rfl | hz
      · omega
      · exact hh z hz
theorem tk_highs : ∀ (l r : List Int) (i : Nat) (n : Int), (∀ z ∈ l, 128 ≤ z) → i + l.length ≤ 9 → ∃ n', tk (l ++ r) i n = tk r (i + l.length) n'
  | [], r, i, n, _, _ => ⟨n, by simp⟩
  | c :: l, r, i, n, h, hl => by
    simp only [List.length_cons] at hl
    obtain ⟨n', e⟩ := tk_highs l r (i + 1) (n + (c - 128) * 2 ^ (7 * i)) (fun z hz => h z (List.mem_cons_of_mem _ hz)) (by omega)
    refine ⟨n', ?_⟩
    rw [List.cons_append, tk, if_neg (by omega), if_pos (h c (by simp)), e]
    simp only [List.length_cons]
    rw [show i + 1 + l.length = i + (l.length + 1) from by omega]
theorem tk_enc : ∀ (f : Nat) (n : Int) (i : Nat) (acc : Int) (r : List Int), 0 ≤ n → n < 128 ^ (f + 1) → n * 2 ^ (7 * i) ≤ 18446744073709551615 → (n = 0 → i = 0) → i ≤ 9 →
    tk (enc f n ++ r) i acc = (acc + n * 2 ^ (7 * i), (i : Int) + (enc f n).length, 0)
  | f, n, i, acc, r, h0, h, hb, hz, hi => by
    have h9 : i = 9 → n ≤ 1 := by
      intro e; subst e
      rw [show (2 : Int) ^ (7 * 9) = 9223372036854775808 from by decide] at hb
      omega
    by_cases hs : n < 128
    · rw [enc_small _ _ hs]
      show tk (n :: r) i acc = _
      rw [tk, if_neg (by omega), if_neg (by omega), if_neg (by omega)]
      rfl
    · cases f with
      | zero => simp at h; omega
      | succ f =>
        obtain ⟨g, hg, hlt⟩ := fuel_step (f + 1) n (by omega) h
        obtain rfl : f = g := by omega
        have hp := pow7_pos i
        have hq := pow7 i
        have e1 : n * 2 ^ (7 * i) = (n % 128) * 2 ^ (7 * i) + n / 128 * 2 ^ (7 * (i + 1)) := by
          rw [hq, ← Int.mul_assoc, ← Int.add_mul]
          congr 1; omega
        have hnn : 0 ≤ (n % 128) * 2 ^ (7 * i) := Int.mul_nonneg (by omega) (by omega)
        rw [enc_big _ _ (by omega), List.cons_append, tk, if_neg (by omega), if_pos (by omega),
          tk_enc f (n / 128) (i + 1) _ r (by omega) hlt (by omega) (by omega) (by omega)]
        rw [show n % 128 + 128 - 128 = n % 128 from by omega, Int.add_assoc, ← e1]
        simp only [List.length_cons]
        refine Prod.ext rfl (Prod.ext ?_ rfl)
        simp only
        omega
theorem tk_pu (n : Int) (r : List Int) (h0 : 0 ≤ n) (h1 : n ≤ 18446744073709551615) : tk (pu n ++ r) 0 0 = (n, ((pu n).length : Int), 0) := by
  have := tk_enc 9 n 0 0 r h0 (u64_fuel n h1) (by simpa using h1) (fun _ => rfl) (by omega)
  unfold pu
  rw [this]
  simp
theorem pu_range (n : Int) (h0 : 0 ≤ n) (h1 : n ≤ 18446744073709551615) : ∀ z ∈ pu n, 0 ≤ z ∧ z < 256 := enc_range 9 n h0 (u64_fuel n h1)
theorem pu_len (n : Int) : 1 ≤ (pu n).length ∧ (pu n).length ≤ 10 := enc_len 9 n
theorem tk_size : ∀ (zs : List Int) (i : Nat) (n : Int), i ≤ 9 → 0 ≤ (tk zs i n).2.1 ∧ (tk zs i n).2.1 ≤ 10 ∧ (tk zs i n).2.1 ≤ i + zs.length
  | [], i, n, _ => by simp only [tk, List.length_nil]; omega
  | c :: r, i, n, hi => by
    rw [tk]
    simp only [List.length_cons]
    split
    · simp only; omega
    · split
      · rename_i h1 h2
        have := tk_size r (i + 1) (n + (c - 128) * 2 ^ (7 * i)) (by omega)
        omega
      · split <;> simp only <;> omega
/-- What a Take leaves: no error, or one; the number fits; it took a byte at least, and no more than there are. -/
theorem tk_facts : ∀ (zs : List Int) (i : Nat) (n : Int), i ≤ 9 → (∀ z ∈ zs, 0 ≤ z ∧ z < 256) → 0 ≤ n → n < 2 ^ (7 * i) →
    0 ≤ (tk zs i n).1 ∧ (tk zs i n).1 ≤ 18446744073709551615 ∧ ((tk zs i n).2.2 = 0 → (i : Int) + 1 ≤ (tk zs i n).2.1)
  | [], i, n, _, _, _, _ => by simp [tk]
  | c :: r, i, n, hi, hz, h0, hn => by
    have hc := hz c (by simp)
    rw [tk]
    split
    · simp
    · split
      · rename_i h1 h2
        have hs := shift_lt n c i ⟨h0, hn⟩ h2 (by omega)
        have := tk_facts r (i + 1) (n + (c - 128) * 2 ^ (7 * i)) (by omega) (fun z hz' => hz z (by simp [hz'])) hs.1 hs.2
        omega
      · split
        · simp
        · rename_i h1 h2 h3
          have hp := pow7_pos i
          have hnn : 0 ≤ c * 2 ^ (7 * i) := Int.mul_nonneg hc.1 (by omega)
          refine ⟨by simp only; omega, ?_, fun _ => by simp only; omega⟩
          simp only
          by_cases h9 : i = 9
          · subst h9
            have hc1 : c ≤ 1 := by omega
            rw [show (2 : Int) ^ (7 * 9) = 9223372036854775808 from by decide] at *
            omega
          · have h8 : (2 : Int) ^ (7 * i) ≤ 2 ^ 56 := by
              have : (2 : Nat) ^ (7 * i) ≤ 2 ^ 56 := Nat.pow_le_pow_right (by omega) (by omega)
              exact_mod_cast this
            have hm : c * 2 ^ (7 * i) ≤ 127 * 2 ^ (7 * i) := Int.mul_le_mul_of_nonneg_right (by omega) (by omega)
            rw [show (2 : Int) ^ 56 = 72057594037927936 from by decide] at h8
            omega

end Go.Proofs.Ytgopcaemgcnapaa.Clep
