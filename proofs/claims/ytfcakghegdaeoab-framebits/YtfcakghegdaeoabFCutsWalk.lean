/- FrameCuts, walked: it answers true. For any bodies, any place. -/
import Derived.Test.YtfcakghegdaeoabCutMath
import Derived.Test.YtfcakghegdaeoabStrBytes
import Derived.Test.YtfcakghegdaeoabAwakeC
import Derived.Test.YtfcakghegdaeoabMask
namespace Go.Proofs.Ytfcakghegdaeoab.Clep
open Go.RowKit
set_option linter.unusedVariables false

theorem Bss.each {w : World} {ao : Option Addr} {len cap : Nat} {zss : List (List Int)} (h : Bss w ao len cap zss) (i : Nat) (hi : i < len) : ByteL (zss.getD i []) := by
  obtain ⟨b, off, _, hc⟩ := h.2.2 (by omega)
  obtain ⟨a, l, c, _, _, hb⟩ := hc i hi
  exact bs_range hb

set_option maxHeartbeats 800000 in
theorem fcuts_walk (ao : Option Addr) (len cap : Nat) (zss : List (List Int)) (x : Int) (w : World) (h : Bss w ao len cap zss) (hm : len ≤ 9223372036854775807) :
    Calls Try.prog 7 #[.slice ao len cap, .int .i64 x] w fun e w' => e = .returned (.bool true) ∧ Below w.heap.size w w' := by
  obtain ⟨m, hmm⟩ : ∃ m, m = min len 8 := ⟨_, rfl⟩
  have HBY := hide (fun i (hi : i < m) => h.each i (by omega))
  have cM := hide (made_any ao len cap zss 8 m w hm (by omega) hmm h)
  have hm8 : m ≤ 8 := by omega
  clear h hmm
  go_enter Try.func7, Try.ntmps7
  go_wp2_with fail
  refine cM.out.mono ?_
  rintro e w1 ⟨hb1, ⟨hok, g, c, rfl, hcl⟩ | ⟨hno, rfl⟩⟩
  · have HB1 := hide hb1
    have HOK := hide hok
    have HCL := hide hcl
    have HRR := hide (rws_range zss m hok HBY.out m (Nat.le_refl _))
    have hEm := en_le zss m hok m (Nat.le_refl _)
    have hsz : (strOfNums (rws zss m)).size = en zss m := str_size _
    obtain ⟨K, hK, hKl⟩ := place_of x 65535 (by decide) ((en zss m : Int) + 1) (en zss m + 1) (by omega) (by omega)
    rw [show (((65535 : Nat) : Int)) = 65535 from rfl] at hK
    obtain ⟨cp2, w2, hrun, hcap2, hB2, hbs2, -, -⟩ := str_bytes w1 (rws zss m) HRR.out
    rw [show (rws zss m).length = en zss m from rfl] at hrun hcap2 hbs2
    have hRUN := hide hrun
    clear hb1 hok hcl cM hrun
    generalize hSS : strOfNums (rws zss m) = SS at *
    generalize hEE : en zss m = EM at *
    have HEE := hide hEE
    clear hSS hEE
    go_wp2_with fail
    go_loop [9] (fun u => ∃ j : Nat, u = .int .i64 j ∧ j ≤ m ∧ en zss j ≤ K) (fun u => m - (intOf u).toNat)
    case atStart => exact ⟨0, rfl, by omega, by simp [en, rws]⟩
    case round =>
      obtain ⟨j, rfl, hj, hjK⟩ := hrel
      by_cases hgo : j < m ∧ en zss (j + 1) ≤ K
      · obtain ⟨hlt, hle⟩ := hgo
        have hc1 := HCL.out (j + 1) (by omega)
        go_wp2
        go_round
        case rel => exact ⟨j + 1, by go_num, by omega, hle⟩
        case measure => simp [intOf]; omega
      · by_cases hlt : j < m
        · have hgt : ¬ en zss (j + 1) ≤ K := fun h => hgo ⟨hlt, h⟩
          have hc1 := HCL.out (j + 1) (by omega)
          clear hgo
          have hSP := SP_cut zss m j K HOK.out HBY.out hj (by rw [HEE.out]; omega) hjK (by omega)
          have cS := hide (fsplit_any (some ⟨w1.heap.size, 0, none⟩) K cp2 ((rws zss m).take K) w2 (by omega) (hbs2.out.takeAt K (by omega)) j (by rw [hSP]; exact fl_len zss j))
          rw [hSP] at cS
          have hcj := HCL.out j hj
          have hrun := hRUN.out
          clear hSP
          generalize hej1 : en zss (j + 1) = EJ1 at *
          generalize hej : en zss j = EJ at *
          go_wp2_with fail
          refine cS.out.mono ?_
          rintro e w3 ⟨Kb, Gb, rfl, -, -, hb3⟩
          have hb13 := hB2.out.trans (hb3.mono hB2.out.size)
          have hgl : g < w1.heap.size := World.block_lt_of_cell? w1 _ hcj
          have hcj3 := (hb13.cell (p := ⟨g, j, none⟩) hgl).trans hcj
          have HB3 := hide (HB1.out.trans (hb13.mono HB1.out.size))
          clear hb3 hb13 cS hrun hcj
          by_cases hKe : K = EJ
          · rw [if_pos hKe]
            have hKi : (K : Int) = (EJ : Int) := by omega
            clear hKe
            go_wp2_with fail
            refine (awakeC_any w3).mono ?_
            rintro e w4 ⟨rfl, hb4⟩
            have HB4 := hide (HB3.out.trans (hb4.mono HB3.out.size))
            clear hb4
            go_wp2
            go_ret
            exact ⟨rfl, HB4.out⟩
          · rw [if_neg hKe]
            have hKi : ¬ (K : Int) = (EJ : Int) := by omega
            clear hKe
            go_wp2_with fail
            refine (awakeC_any w3).mono ?_
            rintro e w4 ⟨rfl, hb4⟩
            have HB4 := hide (HB3.out.trans (hb4.mono HB3.out.size))
            clear hb4
            go_wp2
            go_ret
            exact ⟨rfl, HB4.out⟩
        · clear hgo
          have hSP := SP_cut zss m j K HOK.out HBY.out hj (by rw [HEE.out]; omega) hjK (by omega)
          have cS := hide (fsplit_any (some ⟨w1.heap.size, 0, none⟩) K cp2 ((rws zss m).take K) w2 (by omega) (hbs2.out.takeAt K (by omega)) j (by rw [hSP]; exact fl_len zss j))
          rw [hSP] at cS
          have hcj := HCL.out j hj
          have hrun := hRUN.out
          clear hSP
          skip
          generalize hej : en zss j = EJ at *
          go_wp2_with fail
          refine cS.out.mono ?_
          rintro e w3 ⟨Kb, Gb, rfl, -, -, hb3⟩
          have hb13 := hB2.out.trans (hb3.mono hB2.out.size)
          have hgl : g < w1.heap.size := World.block_lt_of_cell? w1 _ hcj
          have hcj3 := (hb13.cell (p := ⟨g, j, none⟩) hgl).trans hcj
          have HB3 := hide (HB1.out.trans (hb13.mono HB1.out.size))
          clear hb3 hb13 cS hrun hcj
          by_cases hKe : K = EJ
          · rw [if_pos hKe]
            have hKi : (K : Int) = (EJ : Int) := by omega
            clear hKe
            go_wp2_with fail
            refine (awakeC_any w3).mono ?_
            rintro e w4 ⟨rfl, hb4⟩
            have HB4 := hide (HB3.out.trans (hb4.mono HB3.out.size))
            clear hb4
            go_wp2
            go_ret
            exact ⟨rfl, HB4.out⟩
          · rw [if_neg hKe]
            have hKi : ¬ (K : Int) = (EJ : Int) := by omega
            clear hKe
            go_wp2_with fail
            refine (awakeC_any w3).mono ?_
            rintro e w4 ⟨rfl, hb4⟩
            have HB4 := hide (HB3.out.trans (hb4.mono HB3.out.size))
            clear hb4
            go_wp2
            go_ret
            exact ⟨rfl, HB4.out⟩
  · have HB1 := hide hb1
    clear hb1 cM hno
    go_wp2_with fail
    refine (awakeC_any _).mono ?_
    rintro e w2 ⟨rfl, hb2⟩
    have HB2 := hide (HB1.out.trans (hb2.mono HB1.out.size))
    clear hb2
    go_wp2
    go_ret
    exact ⟨rfl, HB2.out⟩

end Go.Proofs.Ytfcakghegdaeoab.Clep
