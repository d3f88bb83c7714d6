/- What math/bits.OnesCount64 does when called: it answers how many bits are set. No conditions but the kind's bounds. -/
import Derived.Test.YtjphnflahpcaiaaBOnes
namespace Go.Proofs.Ytjphnflahpcaiaa.Clep
open Go.RowKit
set_option linter.unusedVariables false

theorem and_u64 (a b : Nat) (ha : a < 18446744073709551616) (hb : b < 18446744073709551616) : bits BinOp.and IntKind.u64 (a : Int) (b : Int) = ((a &&& b : Nat) : Int) := bits_and_u64_nat a b ha hb
theorem wrap_u64 (a : Nat) (ha : a < 18446744073709551616) : IntKind.u64.wrap (a : Int) = (a : Int) := by
  simp [IntKind.wrap, IntKind.bits, IntKind.signed]; omega
theorem wrap_to {z : Int} {a : Nat} (h : z = (a : Int)) (ha : a < 18446744073709551616) : IntKind.u64.wrap z = (a : Int) := by rw [h]; exact wrap_u64 a ha
theorem mk_max (a : Nat) (b : Nat) : a &&& b ≤ b := Nat.and_le_right
theorem ones_x1 (x : Nat) (hx : x < 18446744073709551616) : IntKind.u64.wrap (bits BinOp.and IntKind.u64 ((x : Int) / 2) 6148914691236517205 + bits BinOp.and IntKind.u64 (x : Int) 6148914691236517205) = ((s1 8 x : Nat) : Int) ∧ s1 8 x < 18446744073709551616 := by
  have e : mk 85 8 = 6148914691236517205 := rfl
  have h1 := mk_max (x / 2) (mk 85 8)
  have h2 := mk_max x (mk 85 8)
  have hl : s1 8 x < 18446744073709551616 := by unfold s1; rw [e] at *; omega
  refine ⟨?_, hl⟩
  have q1 := and_u64 (x / 2) 6148914691236517205 (by omega) (by decide)
  have q2 := and_u64 x 6148914691236517205 hx (by decide)
  refine wrap_to ?_ hl
  unfold s1
  rw [e]
  rw [show ((x : Int) / 2) = ((x / 2 : Nat) : Int) by omega, show (6148914691236517205 : Int) = ((6148914691236517205 : Nat) : Int) from rfl, q1, q2]
  omega
theorem ones_x2 (x : Nat) (hx : x < 18446744073709551616) : IntKind.u64.wrap (bits BinOp.and IntKind.u64 ((x : Int) / 4) 3689348814741910323 + bits BinOp.and IntKind.u64 (x : Int) 3689348814741910323) = ((s2 8 x : Nat) : Int) ∧ s2 8 x < 7378697629483820647 := by
  have e : mk 51 8 = 3689348814741910323 := rfl
  have h1 := mk_max (x / 4) (mk 51 8)
  have h2 := mk_max x (mk 51 8)
  have hl : s2 8 x < 7378697629483820647 := by unfold s2; rw [e] at *; omega
  refine ⟨?_, hl⟩
  have q1 := and_u64 (x / 4) 3689348814741910323 (by omega) (by decide)
  have q2 := and_u64 x 3689348814741910323 hx (by decide)
  refine wrap_to ?_ (by omega)
  unfold s2
  rw [e]
  rw [show ((x : Int) / 4) = ((x / 4 : Nat) : Int) by omega, show (3689348814741910323 : Int) = ((3689348814741910323 : Nat) : Int) from rfl, q1, q2]
  omega
theorem ones_x3 (x : Nat) (hx : x < 7378697629483820647) : bits BinOp.and IntKind.u64 (IntKind.u64.wrap ((x : Int) / 16 + (x : Int))) 1085102592571150095 = ((s3 8 x : Nat) : Int) := by
  have e : mk 15 8 = 1085102592571150095 := rfl
  have q1 := and_u64 (x / 16 + x) 1085102592571150095 (by omega) (by decide)
  rw [show ((x : Int) / 16 + (x : Int)) = ((x / 16 + x : Nat) : Int) by omega, wrap_u64 _ (by omega)]
  unfold s3
  rw [e]
  exact q1
theorem ones_x4 (y : Nat) (hy : y < 1000000000000000000) : IntKind.u64.wrap ((y : Int) + (y : Int) / 256) = ((y + y / 256 : Nat) : Int) ∧ IntKind.u64.wrap (((y + y / 256 : Nat) : Int) + ((y + y / 256 : Nat) : Int) / 65536) = ((y + y / 256 + (y + y / 256) / 65536 : Nat) : Int) ∧
    IntKind.u64.wrap (((y + y / 256 + (y + y / 256) / 65536 : Nat) : Int) + ((y + y / 256 + (y + y / 256) / 65536 : Nat) : Int) / 4294967296) = ((y + y / 256 + (y + y / 256) / 65536 + (y + y / 256 + (y + y / 256) / 65536) / 4294967296 : Nat) : Int) ∧
    y + y / 256 + (y + y / 256) / 65536 + (y + y / 256 + (y + y / 256) / 65536) / 4294967296 < 2000000000000000000 := by
  refine ⟨?_, ?_, ?_, by omega⟩
  · exact wrap_to (by omega) (by omega)
  · exact wrap_to (by omega) (by omega)
  · exact wrap_to (by omega) (by omega)
theorem and127 (a : Nat) (ha : a < 9223372036854775808) : bits BinOp.and IntKind.i64 (a : Int) 127 = ((a % 128 : Nat) : Int) := by
  have e : bits .and .i64 (a : Int) 127 = IntKind.i64.wrap ((BitVec.ofInt 64 (a : Int) &&& BitVec.ofInt 64 127).toNat : Int) := rfl
  have h1 : (BitVec.ofInt 64 (a : Int) &&& BitVec.ofInt 64 127).toNat = a % 128 := by
    rw [BitVec.toNat_and, show (BitVec.ofInt 64 (a : Int)).toNat = a by simp; omega, show (BitVec.ofInt 64 127).toNat = 2 ^ 7 - 1 from rfl, Nat.and_two_pow_sub_one_eq_mod]
  rw [e, h1]
  simp [IntKind.wrap, IntKind.bits, IntKind.signed]
  omega
theorem ones64_any (x : Nat) (hx : x < 18446744073709551616) (w : World) : Calls Try.prog 25 #[.int .u64 x] w fun e w' => e = .returned (.int .i64 (pc 64 x : Nat)) ∧ w' = w := by
  obtain ⟨X1, L1⟩ := ones_x1 x hx
  obtain ⟨X2, L2⟩ := ones_x2 _ L1
  have X3 := ones_x3 _ L2
  obtain ⟨M1, M2⟩ := ones_math x
  obtain ⟨X4, X5, X6, L6⟩ := ones_x4 _ M2
  have X7 := and127 _ (Nat.lt_trans L6 (by decide))
  have HM := hide M1
  unfold fin at HM
  simp only at HM
  generalize s3 8 (s2 8 (s1 8 x)) = y at *
  generalize s2 8 (s1 8 x) = y2 at *
  generalize s1 8 x = y1 at *
  generalize pc 64 x = r at *
  generalize y + y / 256 + (y + y / 256) / 65536 + (y + y / 256 + (y + y / 256) / 65536) / 4294967296 = z3 at *
  generalize y + y / 256 + (y + y / 256) / 65536 = z2 at *
  generalize y + y / 256 = z1 at *
  clear M1 M2 L1 L2
  go_enter Try.func25, Try.ntmps25
  go_wp2
  go_ret
  refine ⟨ret_eq ?_, rfl⟩
  rw [← HM.out]
  rfl

end Go.Proofs.Ytjphnflahpcaiaa.Clep
