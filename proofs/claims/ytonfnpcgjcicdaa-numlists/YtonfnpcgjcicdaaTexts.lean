/- Plain mathematics of numbers as texts: eight bytes stand in the numbers' order; by sevens a greater one has never fewer bytes. No conditions. -/
import Derived.Test.YtonfnpcgjcicdaaRefTake
import Derived.Laws.BytesArg
namespace Go.Proofs.Ytonfnpcgjcicdaa.Clep
open Go.RowKit

def ub (zs : List Int) : List UInt8 := zs.map fun n => UInt8.ofNat n.toNat
theorem toList_str (zs : List Int) : (strOfNums zs).toList = ub zs := by
  rw [ByteArray.toList_eq, strOfNums_data]
  rfl
theorem ub_inj : ∀ (xs ys : List Int), (∀ z ∈ xs, 0 ≤ z ∧ z < 256) → (∀ z ∈ ys, 0 ≤ z ∧ z < 256) → ub xs = ub ys → xs = ys
  | [], [], _, _, _ => rfl
  | [], _ :: _, _, _, h => by simp [ub] at h
  | _ :: _, [], _, _, h => by simp [ub] at h
  | x :: xs, y :: ys, hx, hy, h => by
    simp only [ub, List.map_cons, List.cons.injEq] at h
    have hx0 := hx x (by simp)
    have hy0 := hy y (by simp)
    have e := congrArg UInt8.toNat h.1
    simp only [UInt8.toNat_ofNat'] at e
    rw [show x = y from by omega, ub_inj xs ys (fun z hz => hx z (by simp [hz])) (fun z hz => hy z (by simp [hz])) h.2]

def val : List Int → Int
  | [] => 0
  | c :: r => c * 256 ^ r.length + val r
theorem val_lt : ∀ (xs : List Int), (∀ z ∈ xs, 0 ≤ z ∧ z < 256) → 0 ≤ val xs ∧ val xs < 256 ^ xs.length
  | [], _ => by simp [val]
  | c :: r, h => by
    have ih := val_lt r fun z hz => h z (by simp [hz])
    have hc := h c (by simp)
    simp only [val, List.length_cons, Int.pow_succ]
    have h1 : 0 ≤ c * 256 ^ r.length := Int.mul_nonneg hc.1 (by omega)
    have h2 : c * 256 ^ r.length ≤ 255 * 256 ^ r.length := Int.mul_le_mul_of_nonneg_right (by omega) (by omega)
    generalize (256 : Int) ^ r.length = p at *
    omega
theorem less_val : ∀ (xs ys : List Int), xs.length = ys.length → (∀ z ∈ xs, 0 ≤ z ∧ z < 256) → (∀ z ∈ ys, 0 ≤ z ∧ z < 256) → Op.bytesLess (ub xs) (ub ys) = decide (val xs < val ys)
  | [], [], _, _, _ => by simp [ub, Op.bytesLess, val]
  | [], _ :: _, h, _, _ => by simp at h
  | _ :: _, [], h, _, _ => by simp at h
  | x :: xs, y :: ys, hl, hx, hy => by
    have hl' : xs.length = ys.length := by simpa using hl
    have ih := less_val xs ys hl' (fun z hz => hx z (by simp [hz])) (fun z hz => hy z (by simp [hz]))
    have hx0 := hx x (by simp)
    have hy0 := hy y (by simp)
    have b1 := val_lt xs fun z hz => hx z (by simp [hz])
    have b2 := val_lt ys fun z hz => hy z (by simp [hz])
    show (decide (UInt8.ofNat x.toNat < UInt8.ofNat y.toNat) || (UInt8.ofNat x.toNat == UInt8.ofNat y.toNat && Op.bytesLess (ub xs) (ub ys))) = _
    rw [ih]
    have e1 : decide (UInt8.ofNat x.toNat < UInt8.ofNat y.toNat) = decide (x < y) := by
      rw [decide_eq_decide, UInt8.lt_iff_toNat_lt]; simp only [UInt8.toNat_ofNat']; omega
    have e2 : (UInt8.ofNat x.toNat == UInt8.ofNat y.toNat) = decide (x = y) := by
      rw [Bool.eq_iff_iff]; simp only [beq_iff_eq, decide_eq_true_eq]
      constructor
      · intro h; have := congrArg UInt8.toNat h; simp only [UInt8.toNat_ofNat'] at this; omega
      · rintro rfl; rfl
    rw [e1, e2]
    simp only [val, ← hl'] at *
    have h1 : x < y → x * 256 ^ xs.length + 256 ^ xs.length ≤ y * 256 ^ xs.length := by
      intro h
      have : (x + 1) * 256 ^ xs.length ≤ y * 256 ^ xs.length := Int.mul_le_mul_of_nonneg_right (by omega) (by omega)
      rw [Int.add_mul] at this; omega
    have h2 : y < x → y * 256 ^ xs.length + 256 ^ xs.length ≤ x * 256 ^ xs.length := by
      intro h
      have : (y + 1) * 256 ^ xs.length ≤ x * 256 ^ xs.length := Int.mul_le_mul_of_nonneg_right (by omega) (by omega)
      rw [Int.add_mul] at this; omega
    rcases Int.lt_trichotomy x y with h | h | h
    · have := h1 h
      simp [h]; omega
    · subst h; simp
    · have := h2 h
      have hne : x ≠ y := by omega
      have hnl : ¬ x < y := by omega
      simp [hne, hnl]; omega

theorem e8_all (n : Int) : e8 n 8 = [n / 72057594037927936 % 256, n / 281474976710656 % 256, n / 1099511627776 % 256, n / 4294967296 % 256, n / 16777216 % 256, n / 65536 % 256, n / 256 % 256, n / 1 % 256] := rfl
theorem e8_range (n : Int) : ∀ z ∈ e8 n 8, 0 ≤ z ∧ z < 256 := by
  rw [e8_all]; intro z hz
  simp only [List.mem_cons, List.not_mem_nil, or_false] at hz
  omega
theorem val_e8 (n : Int) (h0 : 0 ≤ n) (h1 : n ≤ 18446744073709551615) : val (e8 n 8) = n := by
  rw [e8_all]
  simp only [val, List.length_cons, List.length_nil, show (256 : Int) ^ (0 + 1 + 1 + 1 + 1 + 1 + 1 + 1) = 72057594037927936 from by decide, show (256 : Int) ^ (0 + 1 + 1 + 1 + 1 + 1 + 1) = 281474976710656 from by decide,
    show (256 : Int) ^ (0 + 1 + 1 + 1 + 1 + 1) = 1099511627776 from by decide, show (256 : Int) ^ (0 + 1 + 1 + 1 + 1) = 4294967296 from by decide, show (256 : Int) ^ (0 + 1 + 1 + 1) = 16777216 from by decide,
    show (256 : Int) ^ (0 + 1 + 1) = 65536 from by decide, show (256 : Int) ^ (0 + 1) = 256 from by decide, show (256 : Int) ^ 0 = 1 from by decide]
  omega
theorem enc_mono : ∀ (f : Nat) (a b : Int), a ≤ b → (enc f a).length ≤ (enc f b).length
  | 0, _, _, _ => by simp [enc]
  | f + 1, a, b, h => by
    by_cases ha : a < 128
    · rw [enc_small _ _ ha]; exact (enc_len (f + 1) b).1
    · rw [enc_big _ _ (by omega), enc_big _ _ (by omega)]
      simp only [List.length_cons]
      have := enc_mono f (a / 128) (b / 128) (by omega)
      omega
theorem pu_inj (a b : Int) (h0 : 0 ≤ a) (h1 : a ≤ 18446744073709551615) (h2 : 0 ≤ b) (h3 : b ≤ 18446744073709551615) (h : pu a = pu b) : a = b := by
  have ea := tk_pu a [] h0 h1
  have eb := tk_pu b [] h2 h3
  rw [h, eb] at ea
  exact (Prod.mk.inj ea).1.symm

theorem str_eq (xs ys : List Int) (hx : ∀ z ∈ xs, 0 ≤ z ∧ z < 256) (hy : ∀ z ∈ ys, 0 ≤ z ∧ z < 256) : ((strOfNums xs).toList == (strOfNums ys).toList) = decide (xs = ys) := by
  rw [toList_str, toList_str, Bool.eq_iff_iff]
  simp only [beq_iff_eq, decide_eq_true_eq]
  exact ⟨ub_inj xs ys hx hy, fun h => by rw [h]⟩
theorem eight_less (a b : Int) (h0 : 0 ≤ a) (h1 : a ≤ 18446744073709551615) (h2 : 0 ≤ b) (h3 : b ≤ 18446744073709551615) :
    Op.bytesLess (strOfNums (e8 a 8)).toList (strOfNums (e8 b 8)).toList = decide (a < b) := by
  rw [toList_str, toList_str, less_val _ _ (by rw [e8_len, e8_len]) (e8_range a) (e8_range b), val_e8 a h0 h1, val_e8 b h2 h3]
theorem eight_eq (a b : Int) (h0 : 0 ≤ a) (h1 : a ≤ 18446744073709551615) (h2 : 0 ≤ b) (h3 : b ≤ 18446744073709551615) :
    ((strOfNums (e8 a 8)).toList == (strOfNums (e8 b 8)).toList) = (a == b) := by
  rw [str_eq _ _ (e8_range a) (e8_range b), Bool.eq_iff_iff]
  simp only [beq_iff_eq, decide_eq_true_eq]
  exact ⟨fun h => by rw [← val_e8 a h0 h1, h, val_e8 b h2 h3], fun h => by rw [h]⟩
theorem put_eq (a b : Int) (h0 : 0 ≤ a) (h1 : a ≤ 18446744073709551615) (h2 : 0 ≤ b) (h3 : b ≤ 18446744073709551615) :
    ((strOfNums (pu a)).toList == (strOfNums (pu b)).toList) = (a == b) := by
  rw [str_eq _ _ (pu_range a h0 h1) (pu_range b h2 h3), Bool.eq_iff_iff]
  simp only [beq_iff_eq, decide_eq_true_eq]
  exact ⟨pu_inj a b h0 h1 h2 h3, fun h => by rw [h]⟩

end Go.Proofs.Ytonfnpcgjcicdaa.Clep
