/- More plain mathematics of numbers as bytes: what is put is taken again; what is cut, too long, or too great is not. No conditions. -/
import Derived.Test.YtonfnpcgjcicdaaNum
namespace Go.Proofs.Ytonfnpcgjcicdaa.Clep

theorem pow7 (i : Nat) : (2 : Int) ^ (7 * (i + 1)) = 128 * 2 ^ (7 * i) := by
  rw [show 7 * (i + 1) = 7 * i + 7 from by omega, Int.pow_add]
  rw [Int.mul_comm]; rfl
theorem pow7_pos (i : Nat) : (0 : Int) < 2 ^ (7 * i) := Int.pow_pos (by omega)

/-- All of hi go on; the last one ends. -/
theorem enc_split : ∀ (f : Nat) (n : Int), 0 ≤ n → n < 128 ^ (f + 1) → ∃ hi last, enc f n = hi ++ [last] ∧ (∀ z ∈ hi, 128 ≤ z ∧ z < 256) ∧ 0 ≤ last ∧ last < 128 ∧ hi.length ≤ f
  | 0, n, h0, h => ⟨[], n, by simp [enc], by simp, h0, by simpa using h, by simp⟩
  | f + 1, n, h0, h => by
    by_cases hs : n < 128
    · exact ⟨[], n, by simp [enc_small _ _ hs], by simp, h0, hs, by simp⟩
    · obtain ⟨g, hg, hlt⟩ := fuel_step (f + 1) n (by omega) h
      obtain rfl : f = g := by omega
      obtain ⟨hi, last, e, hh, h1, h2, h3⟩ := enc_split f (n / 128) (by omega) hlt
      refine ⟨(n % 128 + 128) :: hi, last, by rw [enc_big _ _ (by omega), e]; rfl, ?_, h1, h2, by simp; omega⟩
      intro z hz
      rcases List.mem_cons.1 hz with rfl | hz
      · omega
      · exact hh z hz

theorem tk_highs : ∀ (l r : List Int) (i : Nat) (n : Int), (∀ z ∈ l, 128 ≤ z) → i + l.length ≤ 9 → ∃ n', tk (l ++ r) i n = tk r (i + l.length) n'
  | [], r, i, n, _, _ => ⟨n, by simp⟩
  | c :: l, r, i, n, h, hl => by
    simp only [List.length_cons] at hl
    obtain ⟨n', e⟩ := tk_highs l r (i + 1) (n + (c - 128) * 2 ^ (7 * i)) (fun z hz => h z (List.mem_cons_of_mem _ hz)) (by omega)
    refine ⟨n', ?_⟩
    rw [List.cons_append, tk, if_neg (by omega), if_pos (h c (by simp)), e]
    simp only [List.length_cons]
    rw [show i + 1 + l.length = i + (l.length + 1) from by omega]

theorem tk_enc : ∀ (f : Nat) (n : Int) (i : Nat) (acc : Int) (r : List Int), 0 ≤ n → n < 128 ^ (f + 1) → n * 2 ^ (7 * i) ≤ 18446744073709551615 → (n = 0 → i = 0) → i ≤ 9 →
    tk (enc f n ++ r) i acc = (acc + n * 2 ^ (7 * i), (i : Int) + (enc f n).length, 0)
  | f, n, i, acc, r, h0, h, hb, hz, hi => by
    have h9 : i = 9 → n ≤ 1 := by
      intro e; subst e
      rw [show (2 : Int) ^ (7 * 9) = 9223372036854775808 from by decide] at hb
      omega
    by_cases hs : n < 128
    · rw [enc_small _ _ hs]
      show tk (n :: r) i acc = _
      rw [tk, if_neg (by omega), if_neg (by omega), if_neg (by omega)]
      rfl
    · cases f with
      | zero => simp at h; omega
      | succ f =>
        obtain ⟨g, hg, hlt⟩ := fuel_step (f + 1) n (by omega) h
        obtain rfl : f = g := by omega
        have hp := pow7_pos i
        have hq := pow7 i
        have e1 : n * 2 ^ (7 * i) = (n % 128) * 2 ^ (7 * i) + n / 128 * 2 ^ (7 * (i + 1)) := by
          rw [hq, ← Int.mul_assoc, ← Int.add_mul]
          congr 1; omega
        have hnn : 0 ≤ (n % 128) * 2 ^ (7 * i) := Int.mul_nonneg (by omega) (by omega)
        rw [enc_big _ _ (by omega), List.cons_append, tk, if_neg (by omega), if_pos (by omega),
          tk_enc f (n / 128) (i + 1) _ r (by omega) hlt (by omega) (by omega) (by omega)]
        rw [show n % 128 + 128 - 128 = n % 128 from by omega, Int.add_assoc, ← e1]
        simp only [List.length_cons]
        refine Prod.ext rfl (Prod.ext ?_ rfl)
        simp only
        omega

theorem tk_pu (n : Int) (r : List Int) (h0 : 0 ≤ n) (h1 : n ≤ 18446744073709551615) : tk (pu n ++ r) 0 0 = (n, ((pu n).length : Int), 0) := by
  have := tk_enc 9 n 0 0 r h0 (u64_fuel n h1) (by simpa using h1) (fun _ => rfl) (by omega)
  unfold pu
  rw [this]
  simp

theorem pu_range (n : Int) (h0 : 0 ≤ n) (h1 : n ≤ 18446744073709551615) : ∀ z ∈ pu n, 0 ≤ z ∧ z < 256 := enc_range 9 n h0 (u64_fuel n h1)
theorem pu_len (n : Int) : 1 ≤ (pu n).length ∧ (pu n).length ≤ 10 := enc_len 9 n

end Go.Proofs.Ytonfnpcgjcicdaa.Clep
