/- What StampMakes answers when called: true, in new memory alone. Conditions: none but the arguments' kinds. -/
import Derived.Test.YtchipmjceiamfaaKAwake
import Derived.Test.YtchipmjceiamfaaMask
namespace Go.Proofs.Ytchipmjceiamfaa.Clep
open Go.RowKit
set_option linter.unusedVariables false

theorem and_u (v : Nat) (m : Nat) (hm : m < 18446744073709551616) : ∃ V : Nat, bits .and .u64 (v : Int) (m : Int) = (V : Int) ∧ V ≤ m := by
  have e : bits .and .u64 (v : Int) (m : Int) = IntKind.u64.wrap ((BitVec.ofInt 64 (v : Int) &&& BitVec.ofInt 64 (m : Int)).toNat : Int) := rfl
  refine ⟨(BitVec.ofInt 64 (v : Int) &&& BitVec.ofInt 64 (m : Int)).toNat, ?_, ?_⟩
  · rw [e]
    have h := (BitVec.ofInt 64 (v : Int) &&& BitVec.ofInt 64 (m : Int)).isLt
    generalize (BitVec.ofInt 64 (v : Int) &&& BitVec.ofInt 64 (m : Int)).toNat = k at *
    simp [IntKind.wrap, IntKind.bits, IntKind.signed]
    omega
  · rw [BitVec.toNat_and]
    refine Nat.le_trans Nat.and_le_right ?_
    rw [BitVec.toNat_ofInt]
    omega

theorem and7 (v : Nat) : bits .and .u64 (v : Int) 7 = (v : Int) % 8 := by
  have e : bits .and .u64 (v : Int) 7 = IntKind.u64.wrap ((BitVec.ofInt 64 (v : Int) &&& BitVec.ofInt 64 7).toNat : Int) := rfl
  rw [e, BitVec.toNat_and, BitVec.toNat_ofInt, show (BitVec.ofInt 64 7).toNat = 2 ^ 3 - 1 from by decide, Nat.and_two_pow_sub_one_eq_mod]
  simp [IntKind.wrap, IntKind.bits, IntKind.signed]
  omega

set_option maxRecDepth 100000 in
set_option maxHeartbeats 1600000 in
theorem makes0 (a : Nat) (i : Int) (b : Nat) (k : Int) (v : Nat) (w : World) (ha : a ≤ 18446744073709551615) (hb : b ≤ 18446744073709551615) (hv : v ≤ 18446744073709551615) (A B I K : Nat)
    (eA : bits .and .u64 (a : Int) 1099511627775 = (A : Int)) (eB : bits .and .u64 (b : Int) 1099511627775 = (B : Int)) (eI : bits .and .i64 i 3 = (I : Int)) (eK : bits .and .i64 k 3 = (K : Int))
    (hA : A ≤ 1099511627775) (hB : B ≤ 1099511627775) (hI : I ≤ 3) (hK : K ≤ 3) (hi : i < 0) :
    Calls Try.prog 4 #[.int .u64 a, .int .i64 i, .int .u64 b, .int .i64 k, .int .u64 v] w fun e w' => e = .returned (.bool true) ∧ Below w.heap.size w w' := by
  have hM := hide (make_any a i w ⟨by omega, by omega⟩)
  have e7 := and7 v
  rw [show mkv (a : Int) i = (0, 1) from by unfold mkv; rw [if_neg (by omega)]] at hM
  have hM1 := hide (make_any ((A : Int) + 1) I w ⟨by omega, by omega⟩)
  have hM2 := hide (make_any ((B : Int) + 1) K w ⟨by omega, by omega⟩)
  rw [show mkv ((A : Int) + 1) (I : Int) = (((A : Int) + 1) * 8 + I, 0) from by unfold mkv; rw [if_pos (by omega), if_pos (by omega)]] at hM1
  rw [show mkv ((B : Int) + 1) (K : Int) = (((B : Int) + 1) * 8 + K, 0) from by unfold mkv; rw [if_pos (by omega), if_pos (by omega)]] at hM2
  go_enter Try.func4, Try.ntmps4
  go_wp2_with fail
  refine hM.out.mono ?_
  rintro e w1 ⟨rfl, rfl⟩
  go_wp2_with fail
  refine (split_any v _ hv).mono ?_
  rintro e w2 ⟨rfl, rfl⟩
  go_wp2_with fail
  refine hM1.out.mono ?_
  rintro e w3 ⟨rfl, rfl⟩
  go_wp2_with fail
  refine hM2.out.mono ?_
  rintro e w4 ⟨rfl, rfl⟩
  have hcase : ((A : Int) + 1 < (B : Int) + 1 ∧ ((A : Int) + 1) * 8 + (I : Int) < ((B : Int) + 1) * 8 + (K : Int)) ∨
      (A = B ∧ (I : Int) < (K : Int)) ∨ (A = B ∧ ¬ (I : Int) < (K : Int)) ∨
      (¬ (A : Int) + 1 < (B : Int) + 1 ∧ ((A : Int) + 1 == (B : Int) + 1) = false ∧ ¬ ((A : Int) + 1) * 8 + (I : Int) < ((B : Int) + 1) * 8 + (K : Int)) := by
    rcases Nat.lt_trichotomy A B with h | h | h
    · exact .inl ⟨by omega, by omega⟩
    · by_cases hik : I < K
      · exact .inr (.inl ⟨h, by omega⟩)
      · exact .inr (.inr (.inl ⟨h, by omega⟩))
    · exact .inr (.inr (.inr ⟨by omega, by simp; omega, by omega⟩))
  rcases hcase with ⟨h1, h2⟩ | ⟨rfl, h2⟩ | ⟨rfl, h2⟩ | ⟨h1, h3, h2⟩
  · skip
    go_wp2_with fail
    refine (awake_any _).mono ?_
    rintro e w5 ⟨rfl, hb5⟩
    have B5 := hide hb5
    clear hb5
    go_wp2
    go_ret
    exact ⟨rfl, B5.out⟩
  · have h3 : ((A : Int) + 1) * 8 + (I : Int) < ((A : Int) + 1) * 8 + (K : Int) := by omega
    go_wp2_with fail
    refine (awake_any _).mono ?_
    rintro e w5 ⟨rfl, hb5⟩
    have B5 := hide hb5
    clear hb5
    go_wp2
    go_ret
    exact ⟨rfl, B5.out⟩
  · have h3 : ¬ (((A : Int) + 1) * 8 + (I : Int) < ((A : Int) + 1) * 8 + (K : Int)) := by omega
    go_wp2_with fail
    refine (awake_any _).mono ?_
    rintro e w5 ⟨rfl, hb5⟩
    have B5 := hide hb5
    clear hb5
    go_wp2
    go_ret
    exact ⟨rfl, B5.out⟩
  · skip
    go_wp2_with fail
    refine (awake_any _).mono ?_
    rintro e w5 ⟨rfl, hb5⟩
    have B5 := hide hb5
    clear hb5
    go_wp2
    go_ret
    exact ⟨rfl, B5.out⟩

set_option maxRecDepth 100000 in
set_option maxHeartbeats 1600000 in
theorem makes1 (a : Nat) (i : Int) (b : Nat) (k : Int) (v : Nat) (w : World) (ha : a ≤ 18446744073709551615) (hb : b ≤ 18446744073709551615) (hv : v ≤ 18446744073709551615) (A B I K : Nat)
    (eA : bits .and .u64 (a : Int) 1099511627775 = (A : Int)) (eB : bits .and .u64 (b : Int) 1099511627775 = (B : Int)) (eI : bits .and .i64 i 3 = (I : Int)) (eK : bits .and .i64 k 3 = (K : Int))
    (hA : A ≤ 1099511627775) (hB : B ≤ 1099511627775) (hI : I ≤ 3) (hK : K ≤ 3) (hi : ¬ i < 0) (hi6 : 6 < i) :
    Calls Try.prog 4 #[.int .u64 a, .int .i64 i, .int .u64 b, .int .i64 k, .int .u64 v] w fun e w' => e = .returned (.bool true) ∧ Below w.heap.size w w' := by
  have hM := hide (make_any a i w ⟨by omega, by omega⟩)
  have e7 := and7 v
  rw [show mkv (a : Int) i = (0, 1) from by unfold mkv; rw [if_neg (by omega)]] at hM
  have hM1 := hide (make_any ((A : Int) + 1) I w ⟨by omega, by omega⟩)
  have hM2 := hide (make_any ((B : Int) + 1) K w ⟨by omega, by omega⟩)
  rw [show mkv ((A : Int) + 1) (I : Int) = (((A : Int) + 1) * 8 + I, 0) from by unfold mkv; rw [if_pos (by omega), if_pos (by omega)]] at hM1
  rw [show mkv ((B : Int) + 1) (K : Int) = (((B : Int) + 1) * 8 + K, 0) from by unfold mkv; rw [if_pos (by omega), if_pos (by omega)]] at hM2
  go_enter Try.func4, Try.ntmps4
  go_wp2_with fail
  refine hM.out.mono ?_
  rintro e w1 ⟨rfl, rfl⟩
  go_wp2_with fail
  refine (split_any v _ hv).mono ?_
  rintro e w2 ⟨rfl, rfl⟩
  go_wp2_with fail
  refine hM1.out.mono ?_
  rintro e w3 ⟨rfl, rfl⟩
  go_wp2_with fail
  refine hM2.out.mono ?_
  rintro e w4 ⟨rfl, rfl⟩
  have hcase : ((A : Int) + 1 < (B : Int) + 1 ∧ ((A : Int) + 1) * 8 + (I : Int) < ((B : Int) + 1) * 8 + (K : Int)) ∨
      (A = B ∧ (I : Int) < (K : Int)) ∨ (A = B ∧ ¬ (I : Int) < (K : Int)) ∨
      (¬ (A : Int) + 1 < (B : Int) + 1 ∧ ((A : Int) + 1 == (B : Int) + 1) = false ∧ ¬ ((A : Int) + 1) * 8 + (I : Int) < ((B : Int) + 1) * 8 + (K : Int)) := by
    rcases Nat.lt_trichotomy A B with h | h | h
    · exact .inl ⟨by omega, by omega⟩
    · by_cases hik : I < K
      · exact .inr (.inl ⟨h, by omega⟩)
      · exact .inr (.inr (.inl ⟨h, by omega⟩))
    · exact .inr (.inr (.inr ⟨by omega, by simp; omega, by omega⟩))
  rcases hcase with ⟨h1, h2⟩ | ⟨rfl, h2⟩ | ⟨rfl, h2⟩ | ⟨h1, h3, h2⟩
  · skip
    go_wp2_with fail
    refine (awake_any _).mono ?_
    rintro e w5 ⟨rfl, hb5⟩
    have B5 := hide hb5
    clear hb5
    go_wp2
    go_ret
    exact ⟨rfl, B5.out⟩
  · have h3 : ((A : Int) + 1) * 8 + (I : Int) < ((A : Int) + 1) * 8 + (K : Int) := by omega
    go_wp2_with fail
    refine (awake_any _).mono ?_
    rintro e w5 ⟨rfl, hb5⟩
    have B5 := hide hb5
    clear hb5
    go_wp2
    go_ret
    exact ⟨rfl, B5.out⟩
  · have h3 : ¬ (((A : Int) + 1) * 8 + (I : Int) < ((A : Int) + 1) * 8 + (K : Int)) := by omega
    go_wp2_with fail
    refine (awake_any _).mono ?_
    rintro e w5 ⟨rfl, hb5⟩
    have B5 := hide hb5
    clear hb5
    go_wp2
    go_ret
    exact ⟨rfl, B5.out⟩
  · skip
    go_wp2_with fail
    refine (awake_any _).mono ?_
    rintro e w5 ⟨rfl, hb5⟩
    have B5 := hide hb5
    clear hb5
    go_wp2
    go_ret
    exact ⟨rfl, B5.out⟩

set_option maxRecDepth 100000 in
set_option maxHeartbeats 1600000 in
theorem makes2 (a : Nat) (i : Int) (b : Nat) (k : Int) (v : Nat) (w : World) (ha : a ≤ 18446744073709551615) (hb : b ≤ 18446744073709551615) (hv : v ≤ 18446744073709551615) (A B I K : Nat)
    (eA : bits .and .u64 (a : Int) 1099511627775 = (A : Int)) (eB : bits .and .u64 (b : Int) 1099511627775 = (B : Int)) (eI : bits .and .i64 i 3 = (I : Int)) (eK : bits .and .i64 k 3 = (K : Int))
    (hA : A ≤ 1099511627775) (hB : B ≤ 1099511627775) (hI : I ≤ 3) (hK : K ≤ 3) (hi : ¬ i < 0) (hi6 : ¬ 6 < i) (ha1 : (a : Int) < 1) :
    Calls Try.prog 4 #[.int .u64 a, .int .i64 i, .int .u64 b, .int .i64 k, .int .u64 v] w fun e w' => e = .returned (.bool true) ∧ Below w.heap.size w w' := by
  have hM := hide (make_any a i w ⟨by omega, by omega⟩)
  have e7 := and7 v
  rw [show mkv (a : Int) i = (0, 16) from by unfold mkv; rw [if_pos (by omega), if_neg (by omega)]] at hM
  have hM1 := hide (make_any ((A : Int) + 1) I w ⟨by omega, by omega⟩)
  have hM2 := hide (make_any ((B : Int) + 1) K w ⟨by omega, by omega⟩)
  rw [show mkv ((A : Int) + 1) (I : Int) = (((A : Int) + 1) * 8 + I, 0) from by unfold mkv; rw [if_pos (by omega), if_pos (by omega)]] at hM1
  rw [show mkv ((B : Int) + 1) (K : Int) = (((B : Int) + 1) * 8 + K, 0) from by unfold mkv; rw [if_pos (by omega), if_pos (by omega)]] at hM2
  go_enter Try.func4, Try.ntmps4
  go_wp2_with fail
  refine hM.out.mono ?_
  rintro e w1 ⟨rfl, rfl⟩
  go_wp2_with fail
  refine (split_any v _ hv).mono ?_
  rintro e w2 ⟨rfl, rfl⟩
  go_wp2_with fail
  refine hM1.out.mono ?_
  rintro e w3 ⟨rfl, rfl⟩
  go_wp2_with fail
  refine hM2.out.mono ?_
  rintro e w4 ⟨rfl, rfl⟩
  have hcase : ((A : Int) + 1 < (B : Int) + 1 ∧ ((A : Int) + 1) * 8 + (I : Int) < ((B : Int) + 1) * 8 + (K : Int)) ∨
      (A = B ∧ (I : Int) < (K : Int)) ∨ (A = B ∧ ¬ (I : Int) < (K : Int)) ∨
      (¬ (A : Int) + 1 < (B : Int) + 1 ∧ ((A : Int) + 1 == (B : Int) + 1) = false ∧ ¬ ((A : Int) + 1) * 8 + (I : Int) < ((B : Int) + 1) * 8 + (K : Int)) := by
    rcases Nat.lt_trichotomy A B with h | h | h
    · exact .inl ⟨by omega, by omega⟩
    · by_cases hik : I < K
      · exact .inr (.inl ⟨h, by omega⟩)
      · exact .inr (.inr (.inl ⟨h, by omega⟩))
    · exact .inr (.inr (.inr ⟨by omega, by simp; omega, by omega⟩))
  rcases hcase with ⟨h1, h2⟩ | ⟨rfl, h2⟩ | ⟨rfl, h2⟩ | ⟨h1, h3, h2⟩
  · skip
    go_wp2_with fail
    refine (awake_any _).mono ?_
    rintro e w5 ⟨rfl, hb5⟩
    have B5 := hide hb5
    clear hb5
    go_wp2
    go_ret
    exact ⟨rfl, B5.out⟩
  · have h3 : ((A : Int) + 1) * 8 + (I : Int) < ((A : Int) + 1) * 8 + (K : Int) := by omega
    go_wp2_with fail
    refine (awake_any _).mono ?_
    rintro e w5 ⟨rfl, hb5⟩
    have B5 := hide hb5
    clear hb5
    go_wp2
    go_ret
    exact ⟨rfl, B5.out⟩
  · have h3 : ¬ (((A : Int) + 1) * 8 + (I : Int) < ((A : Int) + 1) * 8 + (K : Int)) := by omega
    go_wp2_with fail
    refine (awake_any _).mono ?_
    rintro e w5 ⟨rfl, hb5⟩
    have B5 := hide hb5
    clear hb5
    go_wp2
    go_ret
    exact ⟨rfl, B5.out⟩
  · skip
    go_wp2_with fail
    refine (awake_any _).mono ?_
    rintro e w5 ⟨rfl, hb5⟩
    have B5 := hide hb5
    clear hb5
    go_wp2
    go_ret
    exact ⟨rfl, B5.out⟩

set_option maxRecDepth 100000 in
set_option maxHeartbeats 1600000 in
theorem makes3 (a : Nat) (i : Int) (b : Nat) (k : Int) (v : Nat) (w : World) (ha : a ≤ 18446744073709551615) (hb : b ≤ 18446744073709551615) (hv : v ≤ 18446744073709551615) (A B I K : Nat)
    (eA : bits .and .u64 (a : Int) 1099511627775 = (A : Int)) (eB : bits .and .u64 (b : Int) 1099511627775 = (B : Int)) (eI : bits .and .i64 i 3 = (I : Int)) (eK : bits .and .i64 k 3 = (K : Int))
    (hA : A ≤ 1099511627775) (hB : B ≤ 1099511627775) (hI : I ≤ 3) (hK : K ≤ 3) (hi : ¬ i < 0) (hi6 : ¬ 6 < i) (ha1 : ¬ (a : Int) < 1) (ha2 : (1099511627776 : Int) < (a : Int)) :
    Calls Try.prog 4 #[.int .u64 a, .int .i64 i, .int .u64 b, .int .i64 k, .int .u64 v] w fun e w' => e = .returned (.bool true) ∧ Below w.heap.size w w' := by
  have hM := hide (make_any a i w ⟨by omega, by omega⟩)
  have e7 := and7 v
  rw [show mkv (a : Int) i = (0, 16) from by unfold mkv; rw [if_pos (by omega), if_neg (by omega)]] at hM
  have hM1 := hide (make_any ((A : Int) + 1) I w ⟨by omega, by omega⟩)
  have hM2 := hide (make_any ((B : Int) + 1) K w ⟨by omega, by omega⟩)
  rw [show mkv ((A : Int) + 1) (I : Int) = (((A : Int) + 1) * 8 + I, 0) from by unfold mkv; rw [if_pos (by omega), if_pos (by omega)]] at hM1
  rw [show mkv ((B : Int) + 1) (K : Int) = (((B : Int) + 1) * 8 + K, 0) from by unfold mkv; rw [if_pos (by omega), if_pos (by omega)]] at hM2
  go_enter Try.func4, Try.ntmps4
  go_wp2_with fail
  refine hM.out.mono ?_
  rintro e w1 ⟨rfl, rfl⟩
  go_wp2_with fail
  refine (split_any v _ hv).mono ?_
  rintro e w2 ⟨rfl, rfl⟩
  go_wp2_with fail
  refine hM1.out.mono ?_
  rintro e w3 ⟨rfl, rfl⟩
  go_wp2_with fail
  refine hM2.out.mono ?_
  rintro e w4 ⟨rfl, rfl⟩
  have hcase : ((A : Int) + 1 < (B : Int) + 1 ∧ ((A : Int) + 1) * 8 + (I : Int) < ((B : Int) + 1) * 8 + (K : Int)) ∨
      (A = B ∧ (I : Int) < (K : Int)) ∨ (A = B ∧ ¬ (I : Int) < (K : Int)) ∨
      (¬ (A : Int) + 1 < (B : Int) + 1 ∧ ((A : Int) + 1 == (B : Int) + 1) = false ∧ ¬ ((A : Int) + 1) * 8 + (I : Int) < ((B : Int) + 1) * 8 + (K : Int)) := by
    rcases Nat.lt_trichotomy A B with h | h | h
    · exact .inl ⟨by omega, by omega⟩
    · by_cases hik : I < K
      · exact .inr (.inl ⟨h, by omega⟩)
      · exact .inr (.inr (.inl ⟨h, by omega⟩))
    · exact .inr (.inr (.inr ⟨by omega, by simp; omega, by omega⟩))
  rcases hcase with ⟨h1, h2⟩ | ⟨rfl, h2⟩ | ⟨rfl, h2⟩ | ⟨h1, h3, h2⟩
  · skip
    go_wp2_with fail
    refine (awake_any _).mono ?_
    rintro e w5 ⟨rfl, hb5⟩
    have B5 := hide hb5
    clear hb5
    go_wp2
    go_ret
    exact ⟨rfl, B5.out⟩
  · have h3 : ((A : Int) + 1) * 8 + (I : Int) < ((A : Int) + 1) * 8 + (K : Int) := by omega
    go_wp2_with fail
    refine (awake_any _).mono ?_
    rintro e w5 ⟨rfl, hb5⟩
    have B5 := hide hb5
    clear hb5
    go_wp2
    go_ret
    exact ⟨rfl, B5.out⟩
  · have h3 : ¬ (((A : Int) + 1) * 8 + (I : Int) < ((A : Int) + 1) * 8 + (K : Int)) := by omega
    go_wp2_with fail
    refine (awake_any _).mono ?_
    rintro e w5 ⟨rfl, hb5⟩
    have B5 := hide hb5
    clear hb5
    go_wp2
    go_ret
    exact ⟨rfl, B5.out⟩
  · skip
    go_wp2_with fail
    refine (awake_any _).mono ?_
    rintro e w5 ⟨rfl, hb5⟩
    have B5 := hide hb5
    clear hb5
    go_wp2
    go_ret
    exact ⟨rfl, B5.out⟩

set_option maxRecDepth 100000 in
set_option maxHeartbeats 1600000 in
theorem makes4 (a : Nat) (i : Int) (b : Nat) (k : Int) (v : Nat) (w : World) (ha : a ≤ 18446744073709551615) (hb : b ≤ 18446744073709551615) (hv : v ≤ 18446744073709551615) (A B I K : Nat)
    (eA : bits .and .u64 (a : Int) 1099511627775 = (A : Int)) (eB : bits .and .u64 (b : Int) 1099511627775 = (B : Int)) (eI : bits .and .i64 i 3 = (I : Int)) (eK : bits .and .i64 k 3 = (K : Int))
    (hA : A ≤ 1099511627775) (hB : B ≤ 1099511627775) (hI : I ≤ 3) (hK : K ≤ 3) (hi : ¬ i < 0) (hi6 : ¬ 6 < i) (ha1 : ¬ (a : Int) < 1) (ha2 : ¬ (1099511627776 : Int) < (a : Int)) :
    Calls Try.prog 4 #[.int .u64 a, .int .i64 i, .int .u64 b, .int .i64 k, .int .u64 v] w fun e w' => e = .returned (.bool true) ∧ Below w.heap.size w w' := by
  have hM := hide (make_any a i w ⟨by omega, by omega⟩)
  have e7 := and7 v
  rw [show mkv (a : Int) i = ((a : Int) * 8 + i, 0) from by unfold mkv; rw [if_pos (by omega), if_pos (by omega)]] at hM
  have hM1 := hide (make_any ((A : Int) + 1) I w ⟨by omega, by omega⟩)
  have hM2 := hide (make_any ((B : Int) + 1) K w ⟨by omega, by omega⟩)
  rw [show mkv ((A : Int) + 1) (I : Int) = (((A : Int) + 1) * 8 + I, 0) from by unfold mkv; rw [if_pos (by omega), if_pos (by omega)]] at hM1
  rw [show mkv ((B : Int) + 1) (K : Int) = (((B : Int) + 1) * 8 + K, 0) from by unfold mkv; rw [if_pos (by omega), if_pos (by omega)]] at hM2
  go_enter Try.func4, Try.ntmps4
  go_wp2_with fail
  refine hM.out.mono ?_
  rintro e w1 ⟨rfl, rfl⟩
  go_wp2_with fail
  refine (split_any v _ hv).mono ?_
  rintro e w2 ⟨rfl, rfl⟩
  go_wp2_with fail
  refine hM1.out.mono ?_
  rintro e w3 ⟨rfl, rfl⟩
  go_wp2_with fail
  refine hM2.out.mono ?_
  rintro e w4 ⟨rfl, rfl⟩
  have hcase : ((A : Int) + 1 < (B : Int) + 1 ∧ ((A : Int) + 1) * 8 + (I : Int) < ((B : Int) + 1) * 8 + (K : Int)) ∨
      (A = B ∧ (I : Int) < (K : Int)) ∨ (A = B ∧ ¬ (I : Int) < (K : Int)) ∨
      (¬ (A : Int) + 1 < (B : Int) + 1 ∧ ((A : Int) + 1 == (B : Int) + 1) = false ∧ ¬ ((A : Int) + 1) * 8 + (I : Int) < ((B : Int) + 1) * 8 + (K : Int)) := by
    rcases Nat.lt_trichotomy A B with h | h | h
    · exact .inl ⟨by omega, by omega⟩
    · by_cases hik : I < K
      · exact .inr (.inl ⟨h, by omega⟩)
      · exact .inr (.inr (.inl ⟨h, by omega⟩))
    · exact .inr (.inr (.inr ⟨by omega, by simp; omega, by omega⟩))
  rcases hcase with ⟨h1, h2⟩ | ⟨rfl, h2⟩ | ⟨rfl, h2⟩ | ⟨h1, h3, h2⟩
  · skip
    go_wp2_with fail
    refine (awake_any _).mono ?_
    rintro e w5 ⟨rfl, hb5⟩
    have B5 := hide hb5
    clear hb5
    go_wp2
    go_ret
    exact ⟨rfl, B5.out⟩
  · have h3 : ((A : Int) + 1) * 8 + (I : Int) < ((A : Int) + 1) * 8 + (K : Int) := by omega
    go_wp2_with fail
    refine (awake_any _).mono ?_
    rintro e w5 ⟨rfl, hb5⟩
    have B5 := hide hb5
    clear hb5
    go_wp2
    go_ret
    exact ⟨rfl, B5.out⟩
  · have h3 : ¬ (((A : Int) + 1) * 8 + (I : Int) < ((A : Int) + 1) * 8 + (K : Int)) := by omega
    go_wp2_with fail
    refine (awake_any _).mono ?_
    rintro e w5 ⟨rfl, hb5⟩
    have B5 := hide hb5
    clear hb5
    go_wp2
    go_ret
    exact ⟨rfl, B5.out⟩
  · skip
    go_wp2_with fail
    refine (awake_any _).mono ?_
    rintro e w5 ⟨rfl, hb5⟩
    have B5 := hide hb5
    clear hb5
    go_wp2
    go_ret
    exact ⟨rfl, B5.out⟩

theorem makes_any (a : Nat) (i : Int) (b : Nat) (k : Int) (v : Nat) (w : World) (ha : a ≤ 18446744073709551615) (hb : b ≤ 18446744073709551615) (hv : v ≤ 18446744073709551615) :
    Calls Try.prog 4 #[.int .u64 a, .int .i64 i, .int .u64 b, .int .i64 k, .int .u64 v] w fun e w' => e = .returned (.bool true) ∧ Below w.heap.size w w' := by
  obtain ⟨A, eA, hA⟩ := and_u a 1099511627775 (by omega)
  obtain ⟨B, eB, hB⟩ := and_u b 1099511627775 (by omega)
  obtain ⟨I, eI⟩ := Int.eq_ofNat_of_zero_le (and_mask i 3 (by omega)).1
  obtain ⟨K, eK⟩ := Int.eq_ofNat_of_zero_le (and_mask k 3 (by omega)).1
  have hI := (and_mask i 3 (by omega)).2
  have hK := (and_mask k 3 (by omega)).2
  rw [eI] at hI
  rw [eK] at hK
  by_cases hi : i < 0
  · exact makes0 a i b k v w ha hb hv A B I K eA eB eI eK hA hB (by omega) (by omega) hi
  · by_cases hi6 : 6 < i
    · exact makes1 a i b k v w ha hb hv A B I K eA eB eI eK hA hB (by omega) (by omega) hi hi6
    · by_cases ha1 : (a : Int) < 1
      · exact makes2 a i b k v w ha hb hv A B I K eA eB eI eK hA hB (by omega) (by omega) hi hi6 ha1
      · by_cases ha2 : (1099511627776 : Int) < (a : Int)
        · exact makes3 a i b k v w ha hb hv A B I K eA eB eI eK hA hB (by omega) (by omega) hi hi6 ha1 ha2
        · exact makes4 a i b k v w ha hb hv A B I K eA eB eI eK hA hB (by omega) (by omega) hi hi6 ha1 ha2

end Go.Proofs.Ytchipmjceiamfaa.Clep
