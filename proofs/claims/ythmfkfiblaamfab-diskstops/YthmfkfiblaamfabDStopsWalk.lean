/- Statement DiskStops says true for any two numbers, any appends: the walk over the translated program. -/
import Derived.Test.YthmfkfiblaamfabDStop
namespace Go.Proofs.Ythmfkfiblaamfab.Clep
open Go.RowKit Go.Maps
set_option linter.unusedVariables false

set_option maxHeartbeats 2000000 in
set_option maxRecDepth 8000 in
theorem stops_any (n f : Int) (ao : Option Addr) (la ca : Nat) (ka : List Int) (w : World) (ha : NumV (· < w.heap.size) w (.slice ao la ca) ka) :
    Calls Try.prog 3 #[.int .i64 n, .int .i64 f, .slice ao la ca] w fun e w' => e = .returned (.bool true) ∧ Below w.heap.size w w' := by
  have HA := hide ha.at.2
  have hla : la ≤ 9223372036854775807 := by
    rcases Nat.eq_zero_or_pos la with h | h
    · omega
    · obtain ⟨_, _, _, _, _, h'⟩ := ha.at.2 0 h
      exact h'
  have NW := hide (new_h 1048576 w (by omega) 1048576 rfl)
  obtain ⟨nn, hnn, hnn2⟩ := andm n 31 (by omega)
  obtain ⟨ff, hff, hff2⟩ := andm f 31 (by omega)
  have hn' : bits .and .i64 n 31 = (nn : Int) := hnn
  have hf' : bits .and .i64 f 31 = (ff : Int) := hff
  clear ha hnn hff
  go_enter Try.func3, Try.ntmps3
  go_wp2_with fail
  refine NW.out.mono ?_
  rintro e w0 ⟨R, rfl, H0, B0⟩
  have HH0 := hide H0
  have HB0 := hide B0
  clear H0 B0 NW
  go_wp2_with fail
  refine (create_h bF last1 HH0.out (by decide) (by decide)).mono ?_
  rintro e w1 ⟨rfl, H1, S1⟩
  have HH1 := hide H1
  have HB1 := hide (HB0.out.trans (S1.below (fun i hi => hi)))
  clear H1 S1 HH0 HB0
  go_wp2_with fail
  refine (syncDir_h stops1 HH1.out (by decide)).mono ?_
  rintro e w2 ⟨rfl, H2, S2⟩
  have HH2 := hide H2
  have HB2 := hide (HB1.out.trans (S2.below (fun i hi => hi)))
  clear H2 S2 HH1 HB1
  go_wp2_with fail
  refine (stop_h nn (by omega) rfl HH2.out).mono ?_
  rintro e w3 ⟨rfl, H3, S3⟩
  have HH3 := hide H3
  have HB3 := hide (HB2.out.trans (S3.below (fun i hi => hi)))
  clear H3 S3 HH2 HB2
  go_wp2_with fail
  refine (fail_h ff (by omega) HH3.out).mono ?_
  rintro e w4 ⟨rfl, H4, S4⟩
  have HH4 := hide (show Held (· < w.heap.size) w4 R (sts nn ff 0 []) by rw [← stops2]; exact H4)
  have HB4 := hide (HB3.out.trans (S4.below (fun i hi => hi)))
  clear H4 S4 HH3 HB3
  go_wp2_with fail
  go_loopw [8, 9] (fun s i wr => ∃ (k : Nat) (X : List Int), i = .int .i64 ((k : Int) + 1) ∧ k ≤ 40 ∧ k ≤ la ∧ s = .string (strOfNums X) ∧ Hid (X.length ≤ 15 * k) ∧ Hid (Held (· < w.heap.size) wr R (sts nn ff k X)) ∧ Hid (Below w.heap.size w wr)) (fun _ i _ => 41 - (intOf i).toNat)
  case atStart => exact ⟨0, [], rfl, by omega, by omega, rfl, hide (by simp), HH4, HB4⟩
  case round =>
    obtain ⟨k, X, rfl, hk40, hkl, rfl, hX, hH, hB⟩ := hrel
    by_cases hc : k < la ∧ k < 40
    · obtain ⟨ab, aoff, rfl, hq, hcell, hlm⟩ := HA.out k hc.1
      have hi1 : (k : Int) + 1 ≤ (la : Int) := by omega
      have hi2 : (k : Int) + 1 ≤ 40 := by omega
      have hi3 : (k : Int) < (la : Int) := by omega
      have hcr : wr.cell? ⟨ab, aoff + k, none⟩ = some (.int .i64 (ka.getD k 0)) := by rw [hB.out.cell (p := ⟨ab, aoff + k, none⟩) hq]; exact hcell
      obtain ⟨m, hm, hm2⟩ := andm (ka.getD k 0) 15 (by omega)
      generalize ka.getD k 0 = z at *
      have hm' : bits .and .i64 z 15 = (m : Int) := hm
      clear hm hcell hc
      by_cases hA1 : nn < k + 1
      · have hW : stW nn ff k = 50 := by unfold stW; rw [if_pos hA1]
        have t1 : (nn : Int) < (k : Int) + 1 := by omega
        go_wp2_with fail
        refine (bytes_h ((k : Int) + 1) m hH.out (by omega) (by omega)).mono ?_
        rintro e w2 ⟨rfl, H2, S2⟩
        have hXl := hX.out
        have hap0 := stops3 nn ff k X (byt ((k : Int) + 1) m) (by rw [byt_len]; omega)
        rw [hW] at hap0
        obtain ⟨c2, w3, hcv, hap⟩ := step_append bF (byt ((k : Int) + 1) m) (byt_range _ m) hap0 H2 (by show 2 + k < 1099511627776; omega) (by decide) (by rw [byt_len]; omega) (fun i hi => Nat.lt_of_lt_of_le hi (Nat.le_trans hB.out.size S2.size))
        rw [byt_len] at hcv hap
        have HB2 := hide (hB.out.trans (S2.below (fun i hi => hi)))
        clear H2 S2 hap0
        go_wp2_with fail
        refine hap.out.mono ?_
        rintro e w4 ⟨he, H4, S4⟩
        obtain rfl : e = .returned (.int .i64 50) := he
        have HH4 := hide (show Held (· < w.heap.size) w4 R (sts nn ff (k + 1) (X)) from H4)
        have HB4 := hide (HB2.out.trans (S4.below (fun i hi => hi)))
        have DD := hide (dead_h HH4.out)
        clear H4 S4 hap HB2 hcv hB hH
        go_wp2_with fail
        refine DD.out.mono ?_
        rintro e w5 ⟨he, rfl⟩
        obtain rfl : e = .returned (.bool (decide ((nn : Int) ≤ (k : Int) + 1))) := by
          rw [he]
          refine ret_eq ?_
          show Value.bool (decide (nn ≤ k + 1)) = _
          congr 1
          rw [Bool.eq_iff_iff]
          simp
          omega
        clear DD he
        go_wp2
        go_roundw
        case rel => exact ⟨k + 1, X, by go_num, by omega, by omega, rfl, hide (by omega), HH4, HB4⟩
        case measure => simp [intOf]; omega
      · by_cases hA2 : k + 1 = ff
        · have hW : stW nn ff k = 15 := by unfold stW; rw [if_neg hA1, if_pos hA2]
          have t1 : ¬ ((nn : Int) < (k : Int) + 1) := by omega
          have t3 : ((k : Int) + 1 == (ff : Int)) = true := by simp; omega
          have HA2 := hide hA2
          clear hA2
          go_wp2_with fail
          refine (bytes_h ((k : Int) + 1) m hH.out (by omega) (by omega)).mono ?_
          rintro e w2 ⟨rfl, H2, S2⟩
          have hXl := hX.out
          have hap0 := stops3 nn ff k X (byt ((k : Int) + 1) m) (by rw [byt_len]; omega)
          rw [hW] at hap0
          obtain ⟨c2, w3, hcv, hap⟩ := step_append bF (byt ((k : Int) + 1) m) (byt_range _ m) hap0 H2 (by show 2 + k < 1099511627776; omega) (by decide) (by rw [byt_len]; omega) (fun i hi => Nat.lt_of_lt_of_le hi (Nat.le_trans hB.out.size S2.size))
          rw [byt_len] at hcv hap
          have HB2 := hide (hB.out.trans (S2.below (fun i hi => hi)))
          clear H2 S2 hap0
          go_wp2_with fail
          refine hap.out.mono ?_
          rintro e w4 ⟨he, H4, S4⟩
          obtain rfl : e = .returned (.int .i64 15) := he
          have HH4 := hide (show Held (· < w.heap.size) w4 R (sts nn ff (k + 1) (X)) from H4)
          have HB4 := hide (HB2.out.trans (S4.below (fun i hi => hi)))
          have DD := hide (dead_h HH4.out)
          clear H4 S4 hap HB2 hcv hB hH
          go_wp2_with fail
          refine DD.out.mono ?_
          rintro e w5 ⟨he, rfl⟩
          obtain rfl : e = .returned (.bool (decide ((nn : Int) ≤ (k : Int) + 1))) := by
            rw [he]
            refine ret_eq ?_
            show Value.bool (decide (nn ≤ k + 1)) = _
            congr 1
            rw [Bool.eq_iff_iff]
            simp
            omega
          clear DD he
          go_wp2
          go_roundw
          case rel => exact ⟨k + 1, X, by go_num, by omega, by omega, rfl, hide (by omega), HH4, HB4⟩
          case measure => simp [intOf]; omega
        · have hW : stW nn ff k = 0 := by unfold stW; rw [if_neg hA1, if_neg hA2]
          have t1 : ¬ ((nn : Int) < (k : Int) + 1) := by omega
          have t2 : ¬ ((k : Int) + 1 = (ff : Int)) := by omega
          have t3 : ((k : Int) + 1 == (ff : Int)) = false := by simpa using t2
          go_wp2_with fail
          refine (bytes_h ((k : Int) + 1) m hH.out (by omega) (by omega)).mono ?_
          rintro e w2 ⟨rfl, H2, S2⟩
          have hXl := hX.out
          have hap0 := stops3 nn ff k X (byt ((k : Int) + 1) m) (by rw [byt_len]; omega)
          rw [hW] at hap0
          obtain ⟨c2, w3, hcv, hap⟩ := step_append bF (byt ((k : Int) + 1) m) (byt_range _ m) hap0 H2 (by show 2 + k < 1099511627776; omega) (by decide) (by rw [byt_len]; omega) (fun i hi => Nat.lt_of_lt_of_le hi (Nat.le_trans hB.out.size S2.size))
          rw [byt_len] at hcv hap
          have HB2 := hide (hB.out.trans (S2.below (fun i hi => hi)))
          clear H2 S2 hap0
          go_wp2_with fail
          refine hap.out.mono ?_
          rintro e w4 ⟨he, H4, S4⟩
          obtain rfl : e = .returned (.int .i64 0) := he
          have HH4 := hide (show Held (· < w.heap.size) w4 R (sts nn ff (k + 1) (X ++ byt ((k : Int) + 1) m)) from H4)
          have HB4 := hide (HB2.out.trans (S4.below (fun i hi => hi)))
          have DD := hide (dead_h HH4.out)
          have hj := str_join X (byt ((k : Int) + 1) m)
          have hz1 := str_size X
          have hz2 : (strOfNums (byt ((k : Int) + 1) m)).size = m := by rw [str_size, byt_len]
          clear H4 S4 hap HB2 hcv hB hH
          go_wp2_with fail
          refine DD.out.mono ?_
          rintro e w5 ⟨he, rfl⟩
          obtain rfl : e = .returned (.bool (decide ((nn : Int) ≤ (k : Int) + 1))) := by
            rw [he]
            refine ret_eq ?_
            show Value.bool (decide (nn ≤ k + 1)) = _
            congr 1
            rw [Bool.eq_iff_iff]
            simp
            omega
          clear DD he
          go_wp2
          go_roundw
          case rel => exact ⟨k + 1, X ++ byt ((k : Int) + 1) m, by go_num, by omega, by omega, rfl, hide (by rw [List.length_append, byt_len]; omega), HH4, HB4⟩
          case measure => simp [intOf]; omega
    · have hx : (¬ ((k : Int) + 1 ≤ (la : Int))) ∨ (((k : Int) + 1 ≤ (la : Int)) ∧ ¬ ((k : Int) + 1 ≤ 40)) := by omega
      have hmin : min (la : Int) 40 = (k : Int) := by omega
      clear hc HA
      rcases hx with hx | ⟨hx, hx2⟩
      all_goals
        have CL := hide (calls_h hH.out)
        go_wp2_with fail
        refine CL.out.mono ?_
        rintro e w6 ⟨he, rfl⟩
        obtain rfl : e = .returned (.int .i64 (2 + (k : Int))) := by rw [he]; rfl
        clear CL he
        go_wp2_with fail
        refine (crash_h none 0 0 [] (stops4 nn ff k X) hH.out (by show 2 + k ≤ 1099511627776; omega) ⟨none, 0, rfl, Nat.le_refl _, by omega, by simp, fun h => absurd h (by simp)⟩).mono ?_
        rintro e w7 ⟨rfl, H7, S7⟩
        have HH7 := hide H7
        have HB7 := hide (hB.out.trans (S7.below (fun i hi => hi)))
        clear H7 S7 hH hB
        go_wp2_with fail
        refine (read_h bF (last7 _ _ _) HH7.out (by decide)).mono ?_
        rintro e w8 ⟨xo, xc, rfl, xO, H8, B8⟩
        have hxr : ∀ z ∈ X, 0 ≤ z ∧ z < 256 := by
          obtain ⟨G, D, _⟩ := H8
          exact (D.files ⟨1, X, X.length⟩ (List.mem_singleton.2 rfl)).rng
        obtain ⟨xo', xc', xe, hall⟩ := own_conv xO hxr X.length rfl
        injection xe with e1 e2 e3
        subst e1 e3
        have hcv := hall.out w8 (Below.refl _ _)
        have DD := hide (dead_h H8)
        have HB8 := hide (HB7.out.trans (B8.mono HB7.out.size))
        have AW := hide (awake_any w8)
        generalize X.length = LX at *
        clear B8 xO hall HB7 HH7 e2 hxr H8
        go_wp2_with fail
        refine DD.out.mono ?_
        rintro e w9 ⟨he, rfl⟩
        obtain rfl : e = .returned (.bool false) := by rw [he]; rfl
        clear DD he
        go_wp2_with fail
        refine AW.out.mono ?_
        rintro e wz ⟨rfl, Bz⟩
        have HBz := hide (HB8.out.trans (Bz.mono HB8.out.size))
        clear Bz AW
        go_wp2
        go_ret
        exact ⟨rfl, HBz.out⟩

end Go.Proofs.Ythmfkfiblaamfab.Clep
