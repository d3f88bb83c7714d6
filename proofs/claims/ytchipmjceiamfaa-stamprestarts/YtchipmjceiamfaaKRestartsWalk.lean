/- What StampRestarts answers when called: true, in new memory alone. Conditions: none but the arguments' kinds. -/
import Derived.Test.YtchipmjceiamfaaKAwake
import Derived.Test.YtchipmjceiamfaaMask
namespace Go.Proofs.Ytchipmjceiamfaa.Clep
open Go.RowKit
set_option linter.unusedVariables false

set_option maxRecDepth 100000 in
set_option maxHeartbeats 800000 in
theorem restarts_any (le a c : Int) (w : World) : Calls Try.prog 6 #[.int .i64 le, .int .i64 a, .int .i64 c] w fun e w' => e = .returned (.bool true) ∧ Below w.heap.size w w' := by
  obtain ⟨m, hm⟩ := Int.eq_ofNat_of_zero_le (and_mask le 1023 (by omega)).1
  obtain ⟨X, hX⟩ := Int.eq_ofNat_of_zero_le (and_mask a 127 (by omega)).1
  obtain ⟨Y, hY⟩ := Int.eq_ofNat_of_zero_le (and_mask c 127 (by omega)).1
  have hm1 := (and_mask le 1023 (by omega)).2
  have hX1 := (and_mask a 127 (by omega)).2
  have hY1 := (and_mask c 127 (by omega)).2
  rw [hm] at hm1
  rw [hX] at hX1
  rw [hY] at hY1
  have em : bits .and .i64 le 1023 = (m : Int) := hm
  have eX : bits .and .i64 a 127 = (X : Int) := hX
  have eY : bits .and .i64 c 127 = (Y : Int) := hY
  clear hm hX hY
  obtain ⟨n, hn⟩ : ∃ n : Nat, n = m + 1 := ⟨_, rfl⟩
  have en : (m : Int) + 1 = (n : Int) := by omega
  have hn0 : 0 < n := by omega
  have hn1 : n ≤ 1024 := by omega
  have HN := hide hn
  clear hn
  go_enter Try.func6, Try.ntmps6
  go_wp2_with fail
  refine (New_ok 3 0 w (by omega) (by omega)).mono ?_
  rintro e w1 ⟨rfl, hk, hb⟩
  have K1 := hide hk
  have B1 := hide hb
  have hs := hk.lt
  clear hk hb
  obtain ⟨b, hbb⟩ : ∃ b, w.heap.size = b := ⟨_, rfl⟩
  rw [hbb] at K1 hs
  have HBB := hide (show b ≤ w.heap.size from Nat.le_of_eq hbb.symm)
  have HBC := hide (show w.heap.size ≤ b from Nat.le_of_eq hbb)
  simp only [hbb]
  clear hbb
  go_wp2_with fail
  refine (Renew_any b 3 0 0 n w1 K1.out).mono ?_
  rw [show rnv 0 (n : Int) = (true, (n : Int)) from by unfold rnv; rw [if_pos ⟨by omega, by omega⟩]]
  rintro e w2 ⟨rfl, hk, hg⟩
  have B2 := hide (Below.put B1.out hg HBC.out B1.out.size)
  have K2 := hide hk
  clear hk hg K1 B1
  go_wp2
  go_loopw [10, 11] (fun u i wr => ∃ (k cc L : Nat), i = .int .i64 k ∧ u = .int .u64 L ∧ k ≤ X ∧ cc ≤ n ∧ L ≤ cc * 8 + 3 ∧ Hid (Ck wr b 3 cc n) ∧ Hid (Below w.heap.size w wr)) (fun _ i _ => X - (intOf i).toNat)
  case atStart => exact ⟨0, 0, 0, rfl, rfl, by omega, by omega, by omega, K2, B2⟩
  case round =>
    obtain ⟨k, cc, L, rfl, rfl, hk, hcc, hL, K, B⟩ := hrel
    by_cases hkX : k < X
    · by_cases hc : cc < n
      · go_wp2_with fail
        refine (Next_any b 3 _ _ wr K.out (by omega) (by omega)).mono ?_
        rw [show nxv 3 (cc : Int) (n : Int) = ((((cc + 1) * 8 + 3 : Nat) : Int), 0, ((cc + 1 : Nat) : Int)) from by unfold nxv; rw [if_neg (by omega), if_neg (by omega)]; simp]
        rintro e w4 ⟨rfl, hk, hg⟩
        have B4 := hide (Below.put B.out hg HBC.out B.out.size)
        have K4 := hide hk
        clear hk hg
        go_wp2
        go_roundw
        case rel => exact ⟨k + 1, cc + 1, (cc + 1) * 8 + 3, by go_num, by first | rfl | go_num, by omega, by omega, by omega, K4, B4⟩
        case measure => simp [intOf]; omega
      · go_wp2_with fail
        refine (Next_any b 3 _ _ wr K.out (by omega) (by omega)).mono ?_
        rw [show nxv 3 (cc : Int) (n : Int) = (0, 19, (cc : Int)) from by unfold nxv; rw [if_neg (by omega), if_pos (by omega)]]
        rintro e w4 ⟨rfl, hk, hg⟩
        have B4 := hide (Below.put B.out hg HBC.out B.out.size)
        have K4 := hide hk
        clear hk hg K B
        have K := K4
        have B := B4
        clear K4 B4 HBC
        go_wp2_with fail
        refine (Lease_any b 3 cc n w4 K.out).mono ?_
        rintro e w5 ⟨rfl, rfl⟩
        go_wp2_with fail
        refine (New_ok 3 n _ (by omega) (by omega)).mono ?_
        rintro e w6 ⟨rfl, hk, hb⟩
        have B6 := hide (B.out.trans (hb.mono B.out.size))
        have K6 := hide hk
        have Q6 := hide (show w.heap.size ≤ w5.heap.size from B.out.size)
        clear hk hb K B
        generalize w5.heap.size = b2 at *
        go_wp2_with fail
        refine (Renew_any b2 3 n n (n + 200) w6 K6.out).mono ?_
        rw [show rnv (n : Int) ((n : Int) + 200) = (true, (n : Int) + 200) from by unfold rnv; rw [if_pos ⟨by omega, by omega⟩]]
        rintro e w7 ⟨rfl, hk, hg⟩
        have B7 := hide (Below.put B6.out hg Q6.out B6.out.size)
        have K7 := hide hk
        clear hk hg K6 B6
        go_wp2
        go_loopw [10, 16] (fun u i wq => ∃ (j M : Nat), i = .int .i64 j ∧ u = .int .u64 M ∧ j ≤ Y ∧ M ≤ (n + j) * 8 + 3 ∧ Hid (Ck wq b2 3 ((n : Int) + j) ((n : Int) + 200)) ∧ Hid (Below w.heap.size w wq)) (fun _ i _ => Y - (intOf i).toNat)
        case atStart => exact ⟨0, L, rfl, rfl, by omega, by omega, hide (by simpa using K7.out), B7⟩
        case round =>
          obtain ⟨j, M, rfl, rfl, hj, hM, K8, B8⟩ := hrel
          by_cases hjY : j < Y
          · go_wp2_with fail
            refine (Next_any b2 3 _ _ wr K8.out (by omega) (by omega)).mono ?_
            rw [show nxv 3 ((n : Int) + j) ((n : Int) + 200) = (((((n + j + 1) * 8 + 3 : Nat)) : Int), 0, (((n : Int) + ((j + 1 : Nat) : Int)))) from by unfold nxv; rw [if_neg (by omega), if_neg (by omega)]; simp; omega]
            rintro e w9 ⟨rfl, hk, hg⟩
            have B9 := hide (Below.put B8.out hg Q6.out B8.out.size)
            have K9 := hide hk
            clear hk hg
            obtain ⟨V, hV⟩ : ∃ V : Nat, V = (n + j + 1) * 8 + 3 := ⟨_, rfl⟩
            rw [← hV]
            have hVM : ¬ ((V : Int) ≤ (M : Int)) := by omega
            have HV := hide hV
            clear hV
            go_wp2
            go_roundw
            case rel => exact ⟨j + 1, V, by go_num, rfl, by omega, by have := HV.out; omega, K9, B9⟩
            case measure => simp [intOf]; omega
          · go_wp2_with fail
            refine (awake_any wr).mono ?_
            rintro e w9 ⟨rfl, hb⟩
            have B9 := hide (B8.out.trans (hb.mono B8.out.size))
            clear hb
            go_wp2
            go_ret
            exact ⟨rfl, B9.out⟩
    · clear HBC
      go_wp2_with fail
      refine (Lease_any b 3 cc n wr K.out).mono ?_
      rintro e w5 ⟨rfl, rfl⟩
      go_wp2_with fail
      refine (New_ok 3 n _ (by omega) (by omega)).mono ?_
      rintro e w6 ⟨rfl, hk, hb⟩
      have B6 := hide (B.out.trans (hb.mono B.out.size))
      have K6 := hide hk
      have Q6 := hide (show w.heap.size ≤ w5.heap.size from B.out.size)
      clear hk hb K B
      generalize w5.heap.size = b2 at *
      go_wp2_with fail
      refine (Renew_any b2 3 n n (n + 200) w6 K6.out).mono ?_
      rw [show rnv (n : Int) ((n : Int) + 200) = (true, (n : Int) + 200) from by unfold rnv; rw [if_pos ⟨by omega, by omega⟩]]
      rintro e w7 ⟨rfl, hk, hg⟩
      have B7 := hide (Below.put B6.out hg Q6.out B6.out.size)
      have K7 := hide hk
      clear hk hg K6 B6
      go_wp2
      go_loopw [10, 16] (fun u i wq => ∃ (j M : Nat), i = .int .i64 j ∧ u = .int .u64 M ∧ j ≤ Y ∧ M ≤ (n + j) * 8 + 3 ∧ Hid (Ck wq b2 3 ((n : Int) + j) ((n : Int) + 200)) ∧ Hid (Below w.heap.size w wq)) (fun _ i _ => Y - (intOf i).toNat)
      case atStart => exact ⟨0, L, rfl, rfl, by omega, by omega, hide (by simpa using K7.out), B7⟩
      case round =>
        obtain ⟨j, M, rfl, rfl, hj, hM, K8, B8⟩ := hrel
        by_cases hjY : j < Y
        · go_wp2_with fail
          refine (Next_any b2 3 _ _ wr K8.out (by omega) (by omega)).mono ?_
          rw [show nxv 3 ((n : Int) + j) ((n : Int) + 200) = (((((n + j + 1) * 8 + 3 : Nat)) : Int), 0, (((n : Int) + ((j + 1 : Nat) : Int)))) from by unfold nxv; rw [if_neg (by omega), if_neg (by omega)]; simp; omega]
          rintro e w9 ⟨rfl, hk, hg⟩
          have B9 := hide (Below.put B8.out hg Q6.out B8.out.size)
          have K9 := hide hk
          clear hk hg
          obtain ⟨V, hV⟩ : ∃ V : Nat, V = (n + j + 1) * 8 + 3 := ⟨_, rfl⟩
          rw [← hV]
          have hVM : ¬ ((V : Int) ≤ (M : Int)) := by omega
          have HV := hide hV
          clear hV
          go_wp2
          go_roundw
          case rel => exact ⟨j + 1, V, by go_num, rfl, by omega, by have := HV.out; omega, K9, B9⟩
          case measure => simp [intOf]; omega
        · go_wp2_with fail
          refine (awake_any wr).mono ?_
          rintro e w9 ⟨rfl, hb⟩
          have B9 := hide (B8.out.trans (hb.mono B8.out.size))
          clear hb
          go_wp2
          go_ret
          exact ⟨rfl, B9.out⟩

end Go.Proofs.Ytchipmjceiamfaa.Clep
