/- What StampEnds answers when called: true, in new memory alone. Conditions: none but the arguments' kinds. -/
import Derived.Test.YtchipmjceiamfaaKAwake
import Derived.Test.YtchipmjceiamfaaMask
namespace Go.Proofs.Ytchipmjceiamfaa.Clep
open Go.RowKit
set_option linter.unusedVariables false

theorem or_top (v : Nat) (hv : v ≤ 18446744073709551615) : ∃ V : Nat, bits .or .u64 (v : Int) 1125899906842624 = (V : Int) ∧ V ≤ 18446744073709551615 ∧ 1125899906842624 ≤ V := by
  have e : bits .or .u64 (v : Int) 1125899906842624 = IntKind.u64.wrap ((BitVec.ofInt 64 (v : Int) ||| BitVec.ofInt 64 1125899906842624).toNat : Int) := rfl
  refine ⟨(BitVec.ofInt 64 (v : Int) ||| BitVec.ofInt 64 1125899906842624).toNat, ?_, ?_, ?_⟩
  · rw [e]
    have h := (BitVec.ofInt 64 (v : Int) ||| BitVec.ofInt 64 1125899906842624).isLt
    generalize (BitVec.ofInt 64 (v : Int) ||| BitVec.ofInt 64 1125899906842624).toNat = k at *
    simp [IntKind.wrap, IntKind.bits, IntKind.signed]
    omega
  · have h := (BitVec.ofInt 64 (v : Int) ||| BitVec.ofInt 64 1125899906842624).isLt
    omega
  · rw [BitVec.toNat_or]
    refine Nat.le_trans ?_ Nat.right_le_or
    rw [BitVec.toNat_ofInt]
    omega

set_option maxRecDepth 100000 in
set_option maxHeartbeats 800000 in
theorem ends_any (nd be : Int) (v : Nat) (w : World) (hv : v ≤ 18446744073709551615) : Calls Try.prog 7 #[.int .i64 nd, .int .i64 be, .int .u64 v] w fun e w' => e = .returned (.bool true) ∧ Below w.heap.size w w' := by
  obtain ⟨N, hm⟩ := Int.eq_ofNat_of_zero_le (and_mask nd 3 (by omega)).1
  obtain ⟨X, hX⟩ := Int.eq_ofNat_of_zero_le (and_mask be 15 (by omega)).1
  have hm1 := (and_mask nd 3 (by omega)).2
  have hX1 := (and_mask be 15 (by omega)).2
  rw [hm] at hm1
  rw [hX] at hX1
  have em : bits .and .i64 nd 3 = (N : Int) := hm
  have eX : bits .and .i64 be 15 = (X : Int) := hX
  clear hm hX
  obtain ⟨V, hV, hV1, hV2⟩ := or_top v hv
  obtain ⟨n, hn⟩ : ∃ n : Nat, n = 1099511627776 - X := ⟨_, rfl⟩
  have en : (1099511627776 : Int) - (X : Int) = (n : Int) := by omega
  have hnX : n + X = 1099511627776 := by omega
  have hn1 : n ≤ 1099511627776 := by omega
  have HN := hide hnX
  clear hn hnX
  go_enter Try.func7, Try.ntmps7
  go_wp2_with fail
  refine (New_ok N n w (by omega) (by omega)).mono ?_
  rintro e w1 ⟨rfl, hk, hb⟩
  have K1 := hide hk
  have B1 := hide hb
  clear hk hb
  obtain ⟨b, hbb⟩ : ∃ b, w.heap.size = b := ⟨_, rfl⟩
  rw [hbb] at K1
  have HBC := hide (show w.heap.size ≤ b from Nat.le_of_eq hbb)
  simp only [hbb]
  clear hbb
  go_wp2_with fail
  refine (Renew_any b N n n 1099511627776 w1 K1.out).mono ?_
  rw [show rnv (n : Int) 1099511627776 = (decide ((0 : Int) < (X : Int)), 1099511627776) from by
    have := HN.out
    unfold rnv
    by_cases h0 : 0 < X
    · rw [if_pos ⟨by omega, by omega⟩, decide_eq_true (by omega)]
    · rw [if_neg (by omega), decide_eq_false (by omega)]
      simp
      omega]
  rintro e w2 ⟨rfl, hk, hg⟩
  have B2 := hide (Below.put B1.out hg HBC.out B1.out.size)
  have K2 := hide hk
  clear hk hg K1 B1
  go_wp2
  go_loopw [10] (fun i wr => ∃ (k : Nat), i = .int .i64 ((k : Int) + 1) ∧ k ≤ X ∧ Hid (Ck wr b N ((n + k : Nat) : Int) 1099511627776) ∧ Hid (Below w.heap.size w wr)) (fun i _ => 16 - (intOf i).toNat)
  case atStart => exact ⟨0, rfl, by omega, K2, B2⟩
  case round =>
    obtain ⟨k, rfl, hk, K, B⟩ := hrel
    by_cases hkX : k < X
    · have hc : n + k < 1099511627776 := by have := HN.out; omega
      have hle : (k : Int) + 1 ≤ (X : Int) := by omega
      go_wp2_with fail
      refine (Next_any b N _ _ wr K.out (by omega) (by omega)).mono ?_
      rw [show nxv N ((n + k : Nat) : Int) 1099511627776 = (((n : Int) + ((k : Int) + 1)) * 8 + (N : Int), 0, ((n + (k + 1) : Nat) : Int)) from by unfold nxv; rw [if_neg (by omega), if_neg (by omega)]; simp; omega]
      rintro e w4 ⟨rfl, hk, hg⟩
      have B4 := hide (Below.put B.out hg HBC.out B.out.size)
      have K4 := hide hk
      clear hk hg
      go_wp2
      go_roundw
      case rel => exact ⟨k + 1, by go_num, by omega, K4, B4⟩
      case measure => simp [intOf]; omega
    · obtain rfl : k = X := by omega
      have hle : ¬ ((k : Int) + 1 ≤ (k : Int)) := by omega
      have hs : n + k = 1099511627776 := HN.out
      rw [hs] at K
      clear HN hs
      go_wp2_with fail
      refine (Next_any b N _ _ wr K.out (by omega) (by omega)).mono ?_
      rw [show nxv N ((1099511627776 : Nat) : Int) 1099511627776 = (0, 16, 1099511627776) from by unfold nxv; rw [if_pos (by omega)]; rfl]
      rintro e w4 ⟨rfl, hk, hg⟩
      have B4 := hide (Below.put B.out hg HBC.out B.out.size)
      have K4 := hide hk
      clear hk hg K B
      go_wp2_with fail
      refine (See_any b N _ _ V w4 K4.out hV1).mono ?_
      rw [show seev 1099511627776 (V : Int) = 1099511627776 from by unfold seev; rw [if_neg (by omega)]]
      rintro e w5 ⟨rfl, hk, hg⟩
      have B5 := hide (Below.put B4.out hg HBC.out B4.out.size)
      have K5 := hide hk
      clear hk hg K4 B4
      go_wp2_with fail
      refine (Next_any b N _ _ w5 K5.out (by omega) (by omega)).mono ?_
      rw [show nxv N 1099511627776 1099511627776 = (0, 16, 1099511627776) from by unfold nxv; rw [if_pos (by omega)]]
      rintro e w6 ⟨rfl, hk, hg⟩
      have B6 := hide (Below.put B5.out hg HBC.out B5.out.size)
      have K6 := hide hk
      clear hk hg K5 B5
      go_wp2_with fail
      refine (Now_any b N _ _ w6 K6.out).mono ?_
      rintro e w7 ⟨rfl, rfl⟩
      go_wp2_with fail
      refine (Renew_any b N _ _ 1099511627777 _ K6.out).mono ?_
      rw [show rnv 1099511627776 1099511627777 = (false, 1099511627776) from by decide]
      rintro e w8 ⟨rfl, hk, hg⟩
      have B8 := hide (Below.put B6.out hg HBC.out B6.out.size)
      have K8 := hide hk
      clear hk hg K6 B6
      go_wp2_with fail
      refine (awake_any w8).mono ?_
      rintro e w9 ⟨rfl, hb⟩
      have B9 := hide (B8.out.trans (hb.mono B8.out.size))
      clear hb
      go_wp2
      go_ret
      exact ⟨rfl, B9.out⟩

end Go.Proofs.Ytchipmjceiamfaa.Clep
