/- What sum.byteChange, sum.grow and sum.Of do when called (walks over the translated program): for any bytes. No conditions but the kinds' own bounds. -/
import Derived.Test.YtgopcaemgcnapaaCrcText
namespace Go.Proofs.Ytgopcaemgcnapaa.Clep
open Go.RowKit
set_option linter.unusedVariables false
set_option maxRecDepth 10000

theorem u32_low (C : Nat) (h : C < 4294967296) : bits BinOp.and IntKind.u32 (C : Int) 1 = ((C % 2 : Nat) : Int) := by
  rw [show (1 : Int) = ((1 : Nat) : Int) from rfl, u32_and_nat C 1 h (by omega), Nat.and_one_is_mod]
theorem u32_stp (C : Nat) (h : C < 4294967296) : bits BinOp.xor IntKind.u32 ((C : Int) / 2) (bits BinOp.and IntKind.u32 (C : Int) 1 * 2197175160 % 4294967296) = ((stp C : Nat) : Int) := by
  rw [u32_low C h]
  have h2 : C % 2 < 2 := Nat.mod_lt _ (by omega)
  rw [show ((C % 2 : Nat) : Int) * 2197175160 % 4294967296 = ((C % 2 * 2197175160 : Nat) : Int) from by omega, show (C : Int) / 2 = ((C / 2 : Nat) : Int) from by omega, u32_xor_nat _ _ (by omega) (by omega)]
  rfl

theorem bytechange_any (z : Int) (w : World) (hc : 0 ≤ z ∧ z < 256) :
    Calls Try.prog 75 #[.int .u8 z] w fun e w' => e = .returned (.int .u32 (it 8 z.toNat : Nat)) ∧ w' = w := by
  obtain ⟨c, rfl⟩ := Int.eq_ofNat_of_zero_le hc.1
  have hc' : c < 256 := by omega
  rw [show ((c : Int)).toNat = c from rfl]
  go_enter Try.func75, Try.ntmps75
  go_wp2
  go_loop [3, 6] (fun v i => ∃ k C : Nat, k ≤ 8 ∧ i = .int .i64 k ∧ v = .int .u32 C ∧ C < 4294967296 ∧ Hid (it (8 - k) C = it 8 c)) (fun _ i => 8 - (intOf i).toNat)
  case atStart => exact ⟨0, c, by omega, rfl, by go_num, by omega, hide rfl⟩
  case round =>
    obtain ⟨k, C, hk, rfl, rfl, hC, hT⟩ := hrel
    by_cases hlt : k < 8
    · have hl := hide (u32_stp C hC)
      have hst := hide (stp_lt C hC)
      have hT' := hide (show it (8 - (k + 1)) (stp C) = it 8 c by rw [← hT.out, show 8 - k = 8 - (k + 1) + 1 from by omega, it])
      go_wp2
      go_round
      case rel => exact ⟨k + 1, stp C, by omega, by go_num, by rw [← hl.out], hst.out, hT'⟩
      case measure => simp [intOf]; omega
    · have h8 : k = 8 := by omega
      subst h8
      have hT' := hide (show C = it 8 c from hT.out)
      go_wp2
      go_ret
      exact ⟨by rw [← hT'.out]; rfl, rfl⟩

theorem tab_int (C : Nat) (z : Int) (hC : C < 4294967296) (hz : 0 ≤ z ∧ z < 256) :
    bits BinOp.xor IntKind.u8 ((C : Int) % 256) z = ((C % 256 ^^^ z.toNat : Nat) : Int) := by
  obtain ⟨Z, rfl⟩ := Int.eq_ofNat_of_zero_le hz.1
  have h : C % 256 ^^^ Z < 2 ^ 8 := Nat.xor_lt_two_pow (n := 8) (by omega) (by omega)
  rw [show (C : Int) % 256 = ((C % 256 : Nat) : Int) from by omega, u8_xor_nat _ _ (by omega) (by omega)]
  simp only [Int.toNat_natCast]
theorem tab_int2 (C : Nat) (z : Nat) (hC : C < 4294967296) (hz : z < 256) :
    bits BinOp.xor IntKind.u32 ((C : Int) / 256) ((it 8 (C % 256 ^^^ z) : Nat) : Int) = ((it 8 (C ^^^ z) : Nat) : Int) := by
  have h : C % 256 ^^^ z < 2 ^ 8 := Nat.xor_lt_two_pow (n := 8) (by omega) hz
  rw [show (C : Int) / 256 = ((C / 256 : Nat) : Int) from by omega, u32_xor_nat _ _ (by omega) (it_lt 8 _ (by omega)), tab_step C z hz]

theorem cr_at (zs : List Int) (k C : Nat) (h : k < zs.length) : cr (zs.drop k) C = cr (zs.drop (k + 1)) (it 8 (C ^^^ (zs.getD k 0).toNat)) := by
  rw [drop_get zs k h]; rfl

theorem sgrow_any (c : Nat) (ao : Option Addr) (len cap : Nat) (zs : List Int) (w : World) (hc : c < 4294967296) (hm : len ≤ 9223372036854775807) (h : Bs w ao len cap zs) :
    Calls Try.prog 73 #[.int .u32 c, .slice ao len cap] w fun e w' => e = .returned (.int .u32 (cr zs c : Nat)) ∧ w' = w := by
  have hz := hide h.2.2.1
  have hl := hide h.1
  have hc4 := hide h.2.2.2
  clear h
  go_enter Try.func73, Try.ntmps73
  go_wp2
  go_loop [0, 9] (fun v i => ∃ k C : Nat, k ≤ len ∧ i = .int .i64 k ∧ v = .int .u32 C ∧ C < 4294967296 ∧ Hid (cr (zs.drop k) C = cr zs c)) (fun _ i => len - (intOf i).toNat)
  case atStart => exact ⟨0, c, by omega, rfl, rfl, hc, hide (by simp)⟩
  case round =>
    obtain ⟨k, C, hk, rfl, rfl, hC, hT⟩ := hrel
    by_cases hlt : k < len
    · obtain ⟨b, off, rfl, hcell⟩ := hc4.out (by omega)
      have hck := hcell k hlt
      have hzk := hz.out k
      have HT := hide (show cr (zs.drop (k + 1)) (it 8 (C ^^^ (zs.getD k 0).toNat)) = cr zs c by rw [← hT.out]; exact (cr_at zs k C (by rw [hl.out]; exact hlt)).symm)
      have HX := hide (tab_int C (zs.getD k 0) hC hzk)
      have hx8 : C % 256 ^^^ (zs.getD k 0).toNat < 2 ^ 8 := Nat.xor_lt_two_pow (n := 8) (by omega) (by omega)
      have HY := hide (tab_int2 C (zs.getD k 0).toNat hC (by omega))
      have HL := hide (it_lt 8 (C ^^^ (zs.getD k 0).toNat) (Nat.xor_lt_two_pow (n := 32) hC (by omega)))
      have HC := hide (fun w => bytechange_any ((C % 256 ^^^ (zs.getD k 0).toNat : Nat) : Int) w (by omega))
      generalize zs.getD k 0 = z at *
      generalize hX : (C % 256 ^^^ z.toNat) = X at *
      clear hcell
      go_wp2_with fail
      rw [HX.out]
      refine (HC.out _).mono ?_
      rintro e w1 ⟨rfl, rfl⟩
      go_wp2
      go_round
      case rel => exact ⟨k + 1, _, by omega, by go_num, by rw [← HY.out], HL.out, HT⟩
      case measure => simp [intOf]; omega
    · have h8 : k = len := by omega
      subst h8
      have hT' := hide (show C = cr zs c from by have := hT.out; rwa [List.drop_eq_nil_of_le (by rw [hl.out]; exact Nat.le_refl _)] at this)
      go_wp2
      go_ret
      exact ⟨by rw [← hT'.out]; rfl, rfl⟩

theorem not_int (C : Nat) (hC : C < 4294967296) : bits BinOp.xor IntKind.u32 IntKind.u32.max (C : Int) = 4294967295 - (C : Int) := by
  rw [show IntKind.u32.max = ((4294967295 : Nat) : Int) from rfl, u32_xor_nat _ _ (by omega) hC, Nat.xor_comm, not_xor C hC]; omega
theorem of_any (ao : Option Addr) (len cap : Nat) (zs : List Int) (w : World) (hm : len ≤ 9223372036854775807) (h : Bs w ao len cap zs) :
    Calls Try.prog 67 #[.slice ao len cap] w fun e w' => e = .returned (.int .u32 (crc zs : Nat)) ∧ w' = w := by
  have hb : ByteL zs := bs_range h
  have hl := cr_lt zs 4294967295 hb (by decide)
  have hs := hide (crc_sub zs hb)
  have H := hide h
  clear h hb
  go_enter Try.func67, Try.ntmps67
  go_wp2_with fail
  refine (sgrow_any 4294967295 ao len cap zs w (by omega) hm H.out).mono ?_
  rintro e w1 ⟨rfl, rfl⟩
  generalize cr zs 4294967295 = C at *
  go_wp2
  go_ret
  exact ⟨by rw [hs.out, ← not_int C hl]; rfl, rfl⟩

end Go.Proofs.Ytgopcaemgcnapaa.Clep
