/- What StampPlays answers when called: true, in new memory alone. Conditions: none but the arguments' kinds. -/
import Derived.Test.YtchipmjceiamfaaKAwake
import Derived.Test.YtchipmjceiamfaaKRow
namespace Go.Proofs.Ytchipmjceiamfaa.Clep
open Go.RowKit
set_option linter.unusedVariables false

set_option maxRecDepth 100000 in
set_option maxHeartbeats 800000 in
theorem plays_bad0 (nd : Int) (fr : Nat) (ao : Option Addr) (len cap : Nat) (w : World) (h1 : nd < 0) :
    Calls Try.prog 3 #[.int .i64 nd, .int .u64 fr, .slice ao len cap] w fun e w' => e = .returned (.bool true) ∧ Below w.heap.size w w' := by
  have hN := hide (New_bad nd fr w 1 (.inl ⟨by omega, rfl⟩))
  go_enter Try.func3, Try.ntmps3
  go_wp2_with fail
  refine hN.out.mono ?_
  rintro e w1 ⟨rfl, rfl⟩
  go_wp2_with fail
  refine (awake_any _).mono ?_
  rintro e w5 ⟨rfl, hb5⟩
  have B5 := hide hb5
  clear hb5
  go_wp2
  go_ret
  exact ⟨rfl, B5.out⟩

set_option maxRecDepth 100000 in
set_option maxHeartbeats 800000 in
theorem plays_bad1 (nd : Int) (fr : Nat) (ao : Option Addr) (len cap : Nat) (w : World) (h1 : ¬ nd < 0) (h2 : 6 < nd) :
    Calls Try.prog 3 #[.int .i64 nd, .int .u64 fr, .slice ao len cap] w fun e w' => e = .returned (.bool true) ∧ Below w.heap.size w w' := by
  have hN := hide (New_bad nd fr w 1 (.inl ⟨by omega, rfl⟩))
  go_enter Try.func3, Try.ntmps3
  go_wp2_with fail
  refine hN.out.mono ?_
  rintro e w1 ⟨rfl, rfl⟩
  go_wp2_with fail
  refine (awake_any _).mono ?_
  rintro e w5 ⟨rfl, hb5⟩
  have B5 := hide hb5
  clear hb5
  go_wp2
  go_ret
  exact ⟨rfl, B5.out⟩

set_option maxRecDepth 100000 in
set_option maxHeartbeats 800000 in
theorem plays_bad2 (nd : Int) (fr : Nat) (ao : Option Addr) (len cap : Nat) (w : World) (h1 : ¬ nd < 0) (h2 : ¬ 6 < nd) (h3 : (1099511627776 : Int) < (fr : Int)) :
    Calls Try.prog 3 #[.int .i64 nd, .int .u64 fr, .slice ao len cap] w fun e w' => e = .returned (.bool true) ∧ Below w.heap.size w w' := by
  have hN := hide (New_bad nd fr w 16 (.inr ⟨by omega, h3, rfl⟩))
  go_enter Try.func3, Try.ntmps3
  go_wp2_with fail
  refine hN.out.mono ?_
  rintro e w1 ⟨rfl, rfl⟩
  go_wp2_with fail
  refine (awake_any _).mono ?_
  rintro e w5 ⟨rfl, hb5⟩
  have B5 := hide hb5
  clear hb5
  go_wp2
  go_ret
  exact ⟨rfl, B5.out⟩

set_option maxRecDepth 100000 in
set_option maxHeartbeats 3200000 in
theorem plays_good (nd : Int) (fr : Nat) (ao : Option Addr) (len cap : Nat) (l : List (Int × Nat)) (w : World) (hO : Ops w ao len cap l) (hlen : len ≤ 9223372036854775807) (h1 : ¬ nd < 0) (h2 : ¬ 6 < nd) (h3 : ¬ (1099511627776 : Int) < (fr : Int)) :
    Calls Try.prog 3 #[.int .i64 nd, .int .u64 fr, .slice ao len cap] w fun e w' => e = .returned (.bool true) ∧ Below w.heap.size w w' := by
  have HO := hide hO
  clear hO
  have hN := hide (New_ok nd fr w (by omega) (by omega))
  go_enter Try.func3, Try.ntmps3
  go_wp2_with fail
  refine hN.out.mono ?_
  rintro e w1 ⟨rfl, hk, hb⟩
  have K1 := hide hk
  have B1 := hide hb
  clear hk hb hN
  obtain ⟨b, hbb⟩ : ∃ b, w.heap.size = b := ⟨_, rfl⟩
  rw [hbb] at K1
  have HBC := hide (show w.heap.size ≤ b from Nat.le_of_eq hbb)
  simp only [hbb]
  clear hbb
  go_wp2
  go_loopw [10, 11, 12] (fun u v i wr => ∃ (k : Nat) (c le : Int), i = .int .i64 k ∧ u = .int .u64 c ∧ v = .int .u64 le ∧ k ≤ len ∧ k ≤ 80 ∧ (0 ≤ c ∧ c ≤ 1099511627776) ∧ (0 ≤ le ∧ le ≤ 1099511627776) ∧ Hid (Ck wr b nd c le) ∧ Hid (Below w.heap.size w wr)) (fun _ _ i _ => 80 - (intOf i).toNat)
  case atStart => exact ⟨0, fr, fr, rfl, rfl, rfl, by omega, by omega, by omega, by omega, K1, B1⟩
  case round =>
    obtain ⟨k, c, le, rfl, rfl, rfl, hk, hk80, hc, hle, K, B⟩ := hrel
    by_cases hkl : k < len
    · by_cases hk8 : k < 80
      · obtain ⟨hl, _, hwf, hcell⟩ := HO.out
        obtain ⟨rb, off, rfl, hcl⟩ := hcell (by omega)
        obtain ⟨⟨kd, V⟩, hy⟩ : ∃ y, l[k]? = some y := ⟨_, List.getElem?_eq_getElem (by omega)⟩
        have hV : V ≤ 18446744073709551615 := hwf _ (List.mem_of_getElem? hy)
        obtain ⟨g0, g1⟩ := hcl k _ hy
        have lt0 := World.block_lt_of_cell? w _ g0
        have hrb : rb ≠ b := by have := HBC.out; simp at lt0; omega
        have c0 := (B.out.cell (p := ⟨rb, off + k * 2, none⟩) lt0).trans g0
        have c1 := (B.out.cell (p := ⟨rb, off + k * 2 + 1, none⟩) lt0).trans g1
        simp only at c0 c1
        clear hl hwf hcell hcl hy g0 g1 lt0
        have HC := hide (And.intro hc hle)
        clear hc hle
        by_cases hk0 : kd = 0
        · subst hk0
          by_cases hd1 : (1099511627776 : Int) ≤ c
          · have HX := hide (show True from trivial)
            have hc0 := HC.out.1.1
            have hE : nxv nd c le = (0, 16, c) := by unfold nxv; rw [if_pos (by omega)]
            go_wp2_with fail
            refine (Next_any b nd _ _ wr K.out (by have := HC.out; omega) (by omega)).mono ?_
            rw [hE]
            rintro e w4 ⟨rfl, hk4, hg⟩
            have B4 := hide (Below.put B.out hg HBC.out B.out.size)
            have K4 := hide hk4
            clear hk4 hg K B
            go_wp2_with fail
            refine (Now_any b _ _ _ w4 K4.out).mono ?_
            rintro e w5 ⟨rfl, rfl⟩
            go_wp2_with fail
            refine (Lease_any b _ _ _ _ K4.out).mono ?_
            rintro e w6 ⟨rfl, rfl⟩
            go_wp2
            go_roundw
            case rel => exact ⟨k + 1, c, le, by go_num, rfl, rfl, by omega, by omega, by have := HC.out; have := HX.out; omega, by have := HC.out; have := HX.out; omega, K4, B4⟩
            case measure => simp [intOf]; omega
          · by_cases hd2 : le ≤ c
            · have HX := hide (show True from trivial)
              have hc0 := HC.out.1.1
              have hE : nxv nd c le = (0, 19, c) := by unfold nxv; rw [if_neg (by omega), if_pos (by omega)]
              go_wp2_with fail
              refine (Next_any b nd _ _ wr K.out (by have := HC.out; omega) (by omega)).mono ?_
              rw [hE]
              rintro e w4 ⟨rfl, hk4, hg⟩
              have B4 := hide (Below.put B.out hg HBC.out B.out.size)
              have K4 := hide hk4
              clear hk4 hg K B
              go_wp2_with fail
              refine (Now_any b _ _ _ w4 K4.out).mono ?_
              rintro e w5 ⟨rfl, rfl⟩
              go_wp2_with fail
              refine (Lease_any b _ _ _ _ K4.out).mono ?_
              rintro e w6 ⟨rfl, rfl⟩
              go_wp2
              go_roundw
              case rel => exact ⟨k + 1, c, le, by go_num, rfl, rfl, by omega, by omega, by have := HC.out; have := HX.out; omega, by have := HC.out; have := HX.out; omega, K4, B4⟩
              case measure => simp [intOf]; omega
            · have HX := hide (show c + 1 ≤ 1099511627776 from (by omega))
              have hc0 := HC.out.1.1
              have hE : nxv nd c le = ((c + 1) * 8 + nd, 0, c + 1) := by unfold nxv; rw [if_neg (by omega), if_neg (by omega)]
              go_wp2_with fail
              refine (Next_any b nd _ _ wr K.out (by have := HC.out; omega) (by omega)).mono ?_
              rw [hE]
              rintro e w4 ⟨rfl, hk4, hg⟩
              have B4 := hide (Below.put B.out hg HBC.out B.out.size)
              have K4 := hide hk4
              clear hk4 hg K B
              go_wp2_with fail
              refine (Now_any b _ _ _ w4 K4.out).mono ?_
              rintro e w5 ⟨rfl, rfl⟩
              go_wp2_with fail
              refine (Lease_any b _ _ _ _ K4.out).mono ?_
              rintro e w6 ⟨rfl, rfl⟩
              go_wp2
              go_roundw
              case rel => exact ⟨k + 1, (c + 1), le, by go_num, rfl, rfl, by omega, by omega, by have := HC.out; have := HX.out; omega, by have := HC.out; have := HX.out; omega, K4, B4⟩
              case measure => simp [intOf]; omega
        · have hk0' : (kd == 0) = false := by simp [hk0]
          by_cases hk1 : kd = 1
          · subst hk1
            by_cases hq : 1099511627776 < V / 8
            · by_cases hx : c < 1099511627776
              · have hE : seev c (V : Int) = 1099511627776 := by unfold seev; rw [if_pos (by omega)]; omega
                have HX := hide (show 0 ≤ 1099511627776 ∧ 1099511627776 ≤ 1099511627776 from by have := HC.out; omega)
                have HQQ := hide hq
                clear hq
                go_wp2_with fail
                refine (See_any b nd _ _ V wr K.out hV).mono ?_
                rw [hE]
                rintro e w4 ⟨rfl, hk4, hg⟩
                have B4 := hide (Below.put B.out hg HBC.out B.out.size)
                have K4 := hide hk4
                have c0' := hg.cell c0 (fun h => hrb (by cases h; rfl))
                have c1' := hg.cell c1 (fun h => hrb (by cases h; rfl))
                clear hk4 hg K B
                have HQ := HQQ.out
                have hqi : (1099511627776 : Int) < (V : Int) / 8 := by omega
                clear HQ
                go_wp2_with fail
                refine (Now_any b _ _ _ w4 K4.out).mono ?_
                rintro e w5 ⟨rfl, rfl⟩
                go_wp2_with fail
                refine (Lease_any b _ _ _ _ K4.out).mono ?_
                rintro e w6 ⟨rfl, rfl⟩
                go_wp2
                go_roundw
                case rel => exact ⟨k + 1, 1099511627776, le, by go_num, rfl, rfl, by omega, by omega, by have := HC.out; have := HX.out; omega, by have := HC.out; have := HX.out; omega, K4, B4⟩
                case measure => simp [intOf]; omega
              · have hE : seev c (V : Int) = c := by unfold seev; rw [if_neg (by omega)]
                have HX := hide (show 0 ≤ c ∧ c ≤ 1099511627776 from by have := HC.out; omega)
                have HQQ := hide hq
                clear hq
                go_wp2_with fail
                refine (See_any b nd _ _ V wr K.out hV).mono ?_
                rw [hE]
                rintro e w4 ⟨rfl, hk4, hg⟩
                have B4 := hide (Below.put B.out hg HBC.out B.out.size)
                have K4 := hide hk4
                have c0' := hg.cell c0 (fun h => hrb (by cases h; rfl))
                have c1' := hg.cell c1 (fun h => hrb (by cases h; rfl))
                clear hk4 hg K B
                have HQ := HQQ.out
                have hqi : (1099511627776 : Int) < (V : Int) / 8 := by omega
                clear HQ
                go_wp2_with fail
                refine (Now_any b _ _ _ w4 K4.out).mono ?_
                rintro e w5 ⟨rfl, rfl⟩
                go_wp2_with fail
                refine (Lease_any b _ _ _ _ K4.out).mono ?_
                rintro e w6 ⟨rfl, rfl⟩
                go_wp2
                go_roundw
                case rel => exact ⟨k + 1, c, le, by go_num, rfl, rfl, by omega, by omega, by have := HC.out; have := HX.out; omega, by have := HC.out; have := HX.out; omega, K4, B4⟩
                case measure => simp [intOf]; omega
            · by_cases hx : c < ((V / 8 : Nat) : Int)
              · have hE : seev c (V : Int) = ((V / 8 : Nat) : Int) := by unfold seev; rw [if_pos (by omega)]; omega
                have HX := hide (show 0 ≤ ((V / 8 : Nat) : Int) ∧ ((V / 8 : Nat) : Int) ≤ 1099511627776 from by have := HC.out; omega)
                have HQQ := hide hq
                clear hq
                go_wp2_with fail
                refine (See_any b nd _ _ V wr K.out hV).mono ?_
                rw [hE]
                rintro e w4 ⟨rfl, hk4, hg⟩
                have B4 := hide (Below.put B.out hg HBC.out B.out.size)
                have K4 := hide hk4
                have c0' := hg.cell c0 (fun h => hrb (by cases h; rfl))
                have c1' := hg.cell c1 (fun h => hrb (by cases h; rfl))
                clear hk4 hg K B
                have HQ := HQQ.out
                have hqi : (V : Int) / 8 ≤ (1099511627776 : Int) := by omega
                have hxi : c < (V : Int) / 8 := by omega
                clear HQ
                go_wp2_with fail
                refine (Now_any b _ _ _ w4 K4.out).mono ?_
                rintro e w5 ⟨rfl, rfl⟩
                go_wp2_with fail
                refine (Lease_any b _ _ _ _ K4.out).mono ?_
                rintro e w6 ⟨rfl, rfl⟩
                go_wp2
                go_roundw
                case rel => exact ⟨k + 1, ((V / 8 : Nat) : Int), le, by go_num, rfl, rfl, by omega, by omega, by have := HC.out; have := HX.out; omega, by have := HC.out; have := HX.out; omega, K4, B4⟩
                case measure => simp [intOf]; omega
              · have hE : seev c (V : Int) = c := by unfold seev; rw [if_neg (by omega)]
                have HX := hide (show 0 ≤ c ∧ c ≤ 1099511627776 from by have := HC.out; omega)
                have HQQ := hide hq
                clear hq
                go_wp2_with fail
                refine (See_any b nd _ _ V wr K.out hV).mono ?_
                rw [hE]
                rintro e w4 ⟨rfl, hk4, hg⟩
                have B4 := hide (Below.put B.out hg HBC.out B.out.size)
                have K4 := hide hk4
                have c0' := hg.cell c0 (fun h => hrb (by cases h; rfl))
                have c1' := hg.cell c1 (fun h => hrb (by cases h; rfl))
                clear hk4 hg K B
                have HQ := HQQ.out
                have hqi : (V : Int) / 8 ≤ (1099511627776 : Int) := by omega
                have hxi : (V : Int) / 8 ≤ c := by omega
                clear HQ
                go_wp2_with fail
                refine (Now_any b _ _ _ w4 K4.out).mono ?_
                rintro e w5 ⟨rfl, rfl⟩
                go_wp2_with fail
                refine (Lease_any b _ _ _ _ K4.out).mono ?_
                rintro e w6 ⟨rfl, rfl⟩
                go_wp2
                go_roundw
                case rel => exact ⟨k + 1, c, le, by go_num, rfl, rfl, by omega, by omega, by have := HC.out; have := HX.out; omega, by have := HC.out; have := HX.out; omega, K4, B4⟩
                case measure => simp [intOf]; omega
          · have hk1' : (kd == 1) = false := by simp [hk1]
            by_cases hr1 : le < (V : Int)
            · by_cases hr2 : (V : Int) ≤ 1099511627776
              · have hE : rnv le (V : Int) = (true, (V : Int)) := by unfold rnv; rw [if_pos ⟨by omega, by omega⟩]
                have HX := hide (show 0 ≤ (V : Int) ∧ (V : Int) ≤ 1099511627776 from by have := HC.out; omega)
                go_wp2_with fail
                refine (Renew_any b nd _ _ V wr K.out).mono ?_
                rw [hE]
                rintro e w4 ⟨rfl, hk4, hg⟩
                have B4 := hide (Below.put B.out hg HBC.out B.out.size)
                have K4 := hide hk4
                have c0' := hg.cell c0 (fun h => hrb (by cases h; rfl))
                have c1' := hg.cell c1 (fun h => hrb (by cases h; rfl))
                clear hk4 hg K B
                go_wp2_with fail
                refine (Now_any b _ _ _ w4 K4.out).mono ?_
                rintro e w5 ⟨rfl, rfl⟩
                go_wp2_with fail
                refine (Lease_any b _ _ _ _ K4.out).mono ?_
                rintro e w6 ⟨rfl, rfl⟩
                go_wp2
                go_roundw
                case rel => exact ⟨k + 1, c, (V : Int), by go_num, rfl, rfl, by omega, by omega, by have := HC.out; have := HX.out; omega, by have := HC.out; have := HX.out; omega, K4, B4⟩
                case measure => simp [intOf]; omega
              · have hE : rnv le (V : Int) = (false, le) := by unfold rnv; rw [if_neg (by omega)]
                have HX := hide (show 0 ≤ le ∧ le ≤ 1099511627776 from by have := HC.out; omega)
                go_wp2_with fail
                refine (Renew_any b nd _ _ V wr K.out).mono ?_
                rw [hE]
                rintro e w4 ⟨rfl, hk4, hg⟩
                have B4 := hide (Below.put B.out hg HBC.out B.out.size)
                have K4 := hide hk4
                have c0' := hg.cell c0 (fun h => hrb (by cases h; rfl))
                have c1' := hg.cell c1 (fun h => hrb (by cases h; rfl))
                clear hk4 hg K B
                go_wp2_with fail
                refine (Now_any b _ _ _ w4 K4.out).mono ?_
                rintro e w5 ⟨rfl, rfl⟩
                go_wp2_with fail
                refine (Lease_any b _ _ _ _ K4.out).mono ?_
                rintro e w6 ⟨rfl, rfl⟩
                go_wp2
                go_roundw
                case rel => exact ⟨k + 1, c, le, by go_num, rfl, rfl, by omega, by omega, by have := HC.out; have := HX.out; omega, by have := HC.out; have := HX.out; omega, K4, B4⟩
                case measure => simp [intOf]; omega
            · have hE : rnv le (V : Int) = (false, le) := by unfold rnv; rw [if_neg (by omega)]
              have HX := hide (show 0 ≤ le ∧ le ≤ 1099511627776 from by have := HC.out; omega)
              go_wp2_with fail
              refine (Renew_any b nd _ _ V wr K.out).mono ?_
              rw [hE]
              rintro e w4 ⟨rfl, hk4, hg⟩
              have B4 := hide (Below.put B.out hg HBC.out B.out.size)
              have K4 := hide hk4
              have c0' := hg.cell c0 (fun h => hrb (by cases h; rfl))
              have c1' := hg.cell c1 (fun h => hrb (by cases h; rfl))
              clear hk4 hg K B
              go_wp2_with fail
              refine (Now_any b _ _ _ w4 K4.out).mono ?_
              rintro e w5 ⟨rfl, rfl⟩
              go_wp2_with fail
              refine (Lease_any b _ _ _ _ K4.out).mono ?_
              rintro e w6 ⟨rfl, rfl⟩
              go_wp2
              go_roundw
              case rel => exact ⟨k + 1, c, le, by go_num, rfl, rfl, by omega, by omega, by have := HC.out; have := HX.out; omega, by have := HC.out; have := HX.out; omega, K4, B4⟩
              case measure => simp [intOf]; omega
      · obtain rfl : k = 80 := by omega
        go_wp2_with fail
        refine (awake_any wr).mono ?_
        rintro e w9 ⟨rfl, hb⟩
        have B9 := hide (B.out.trans (hb.mono B.out.size))
        clear hb
        go_wp2
        go_ret
        exact ⟨rfl, B9.out⟩
    · obtain rfl : k = len := by omega
      go_wp2_with fail
      refine (awake_any wr).mono ?_
      rintro e w9 ⟨rfl, hb⟩
      have B9 := hide (B.out.trans (hb.mono B.out.size))
      clear hb
      go_wp2
      go_ret
      exact ⟨rfl, B9.out⟩

theorem plays_any (nd : Int) (fr : Nat) (ao : Option Addr) (len cap : Nat) (l : List (Int × Nat)) (w : World) (hO : Ops w ao len cap l) (hlen : len ≤ 9223372036854775807) :
    Calls Try.prog 3 #[.int .i64 nd, .int .u64 fr, .slice ao len cap] w fun e w' => e = .returned (.bool true) ∧ Below w.heap.size w w' := by
  by_cases h1 : nd < 0
  · exact plays_bad0 nd fr ao len cap w h1
  · by_cases h2 : 6 < nd
    · exact plays_bad1 nd fr ao len cap w h1 h2
    · by_cases h3 : (1099511627776 : Int) < (fr : Int)
      · exact plays_bad2 nd fr ao len cap w h1 h2 h3
      · exact plays_good nd fr ao len cap l w hO hlen h1 h2 h3

end Go.Proofs.Ytchipmjceiamfaa.Clep
