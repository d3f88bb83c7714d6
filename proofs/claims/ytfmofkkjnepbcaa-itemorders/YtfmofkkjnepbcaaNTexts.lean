/- Plain mathematics of numbers as texts: eight bytes stand in the order of numbers. No conditions. -/
import Derived.Test.YtfmofkkjnepbcaaNNum
namespace Go.Proofs.Ytfmofkkjnepbcaa.Clep
open Go.RowKit
set_option linter.unusedVariables false

theorem less_val : ∀ (xs ys : List Int), xs.length = ys.length → (∀ z ∈ xs, 0 ≤ z ∧ z < 256) → (∀ z ∈ ys, 0 ≤ z ∧ z < 256) → Op.bytesLess (ub xs) (ub ys) = decide (val xs < val ys)
  | [], [], _, _, _ => by simp [ub, Op.bytesLess, val]
  | [], _ :: _, h, _, _ => by simp at h
  | _ :: _, [], h, _, _ => by simp at h
  | x :: xs, y :: ys, hl, hx, hy => by
    have hl' : xs.length = ys.length := by simpa using hl
    have ih := less_val xs ys hl' (fun z hz => hx z (by simp [hz])) (fun z hz => hy z (by simp [hz]))
    have hx0 := hx x (by simp)
    have hy0 := hy y (by simp)
    have b1 := val_lt xs fun z hz => hx z (by simp [hz])
    have b2 := val_lt ys fun z hz => hy z (by simp [hz])
    show (decide (UInt8.ofNat x.toNat < UInt8.ofNat y.toNat) || (UInt8.ofNat x.toNat == UInt8.ofNat y.toNat && Op.bytesLess (ub xs) (ub ys))) = _
    rw [ih]
    have e1 : decide (UInt8.ofNat x.toNat < UInt8.ofNat y.toNat) = decide (x < y) := by
      rw [decide_eq_decide, UInt8.lt_iff_toNat_lt]; simp only [UInt8.toNat_ofNat']; omega
    have e2 : (UInt8.ofNat x.toNat == UInt8.ofNat y.toNat) = decide (x = y) := by
      rw [Bool.eq_iff_iff]; simp only [beq_iff_eq, decide_eq_true_eq]
      constructor
      · intro h; have := congrArg UInt8.toNat h; simp only [UInt8.toNat_ofNat'] at this; omega
      · rintro rfl; rfl
    rw [e1, e2]
    simp only [val, ← hl'] at *
    have h1 : x < y → x * 256 ^ xs.length + 256 ^ xs.length ≤ y * 256 ^ xs.length := by
      intro h
      have : (x + 1) * 256 ^ xs.length ≤ y * 256 ^ xs.length := Int.mul_le_mul_of_nonneg_right (by omega) (by omega)
      rw [Int.add_mul] at this; omega
    have h2 : y < x → y * 256 ^ xs.length + 256 ^ xs.length ≤ x * 256 ^ xs.length := by
      intro h
      have : (y + 1) * 256 ^ xs.length ≤ x * 256 ^ xs.length := Int.mul_le_mul_of_nonneg_right (by omega) (by omega)
      rw [Int.add_mul] at this; omega
    rcases Int.lt_trichotomy x y with h | h | h
    · have := h1 h
      simp [h]; omega
    · subst h; simp
    · have := h2 h
      have hne : x ≠ y := by omega
      have hnl : ¬ x < y := by omega
      simp [hne, hnl]; omega
theorem enc_mono : ∀ (f : Nat) (a b : Int), a ≤ b → (enc f a).length ≤ (enc f b).length
  | 0, _, _, _ => by simp [enc]
  | f + 1, a, b, h => by
    by_cases ha : a < 128
    · rw [enc_small _ _ ha]; exact (enc_len (f + 1) b).1
    · rw [enc_big _ _ (by omega), enc_big _ _ (by omega)]
      simp only [List.length_cons]
      have := enc_mono f (a / 128) (b / 128) (by omega)
      omega
theorem pu_inj (a b : Int) (h0 : 0 ≤ a) (h1 : a ≤ 18446744073709551615) (h2 : 0 ≤ b) (h3 : b ≤ 18446744073709551615) (h : pu a = pu b) : a = b := by
  have ea := tk_pu a [] h0 h1
  have eb := tk_pu b [] h2 h3
  rw [h, eb] at ea
  exact (Prod.mk.inj ea).1.symm
theorem eight_less (a b : Int) (h0 : 0 ≤ a) (h1 : a ≤ 18446744073709551615) (h2 : 0 ≤ b) (h3 : b ≤ 18446744073709551615) :
    Op.bytesLess (strOfNums (e8 a 8)).toList (strOfNums (e8 b 8)).toList = decide (a < b) := by
  rw [toList_str, toList_str, less_val _ _ (by rw [e8_len, e8_len]) (e8_range a) (e8_range b), val_e8 a h0 h1, val_e8 b h2 h3]
theorem eight_eq (a b : Int) (h0 : 0 ≤ a) (h1 : a ≤ 18446744073709551615) (h2 : 0 ≤ b) (h3 : b ≤ 18446744073709551615) :
    ((strOfNums (e8 a 8)).toList == (strOfNums (e8 b 8)).toList) = (a == b) := by
  rw [str_eq _ _ (e8_range a) (e8_range b), Bool.eq_iff_iff]
  simp only [beq_iff_eq, decide_eq_true_eq]
  exact ⟨fun h => by rw [← val_e8 a h0 h1, h, val_e8 b h2 h3], fun h => by rw [h]⟩
theorem put_eq (a b : Int) (h0 : 0 ≤ a) (h1 : a ≤ 18446744073709551615) (h2 : 0 ≤ b) (h3 : b ≤ 18446744073709551615) :
    ((strOfNums (pu a)).toList == (strOfNums (pu b)).toList) = (a == b) := by
  rw [str_eq _ _ (pu_range a h0 h1) (pu_range b h2 h3), Bool.eq_iff_iff]
  simp only [beq_iff_eq, decide_eq_true_eq]
  exact ⟨pu_inj a b h0 h1 h2 h3, fun h => by rw [h]⟩

end Go.Proofs.Ytfmofkkjnepbcaa.Clep
