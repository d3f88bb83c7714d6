/- LogCuts, walked: it answers true. For any batches, any place. -/
import Derived.Test.YtdldpdllhnpdaaaLc
import Derived.Test.YtdldpdllhnpdaaaLd
import Derived.Test.YtdldpdllhnpdaaaLe
import Derived.Test.YtdldpdllhnpdaaaYf
import Derived.Test.YtdldpdllhnpdaaaZa
namespace Go.Proofs.Ytdldpdllhnpdaaa.Clep
open Go.RowKit Go.Maps
set_option linter.unusedVariables false
set_option maxRecDepth 10000

set_option maxHeartbeats 2000000 in
theorem cuts_walk (a : Option Addr) (n c : Nat) (zs : List Sl) (x : Int) (w : World) (h : Rws w a n c zs) (hn : n ≤ 9223372036854775807) :
    Calls Try.prog 6 #[.slice a n c, .int .i64 x] w fun e w' => e = .returned (.bool true) ∧ Below w.heap.size w w' := by
  have C := hide (few_any a n c zs w h hn)
  have HF := hide (fun e => few_ok h e)
  have HT := hide (fun h15 hs => text_any a n c zs w h h15 hs)
  have HG := hide (gl_good zs (rws_wf h))
  have hlz := hide h.1
  clear h
  generalize fewB n zs = O at *
  go_enter Try.func6, Try.ntmps6
  go_wp2_with fail
  refine C.out.mono ?_
  rintro e w0 ⟨rfl, rfl⟩
  clear C
  cases O with
  | false =>
    have AW := hide (lawake_any w0)
    go_wp2_with fail
    refine AW.out.mono ?_
    rintro e w1 ⟨rfl, hb⟩
    have HB := hide hb
    clear hb AW
    go_wp2
    go_ret
    exact ⟨rfl, HB.out⟩
  | true =>
    obtain ⟨h15, hs150⟩ := HF.out rfl
    have TX := hide (HT.out h15 hs150)
    have hLB := gl_bytes zs (by rw [hlz.out]; exact h15) hs150
    have hGs : (gl zs).length ≤ 15 := Nat.le_trans (gl_size zs).1 (by rw [hlz.out]; exact h15)
    clear HF HT
    go_wp2_with fail
    refine TX.out.mono ?_
    rintro e w1 ⟨gv, eb, ec, ys, rfl, hor, -, hym, hcl, hec, hb1⟩
    have HB1 := hide hb1
    have HCL := hide hcl
    have HOR := hide hor
    have HYM := hide hym
    clear hor hym hcl hb1 TX hlz
    generalize hgs : gl zs = gs at *
    clear hgs
    have hsz : (strOfNums (lg gs)).size = (lg gs).length := str_size _
    have HLR := hide (lg_range gs HG.out)
    have HCUT := hide (rp_cut gs HG.out)
    obtain ⟨EM, hEM⟩ : ∃ EM, (lg gs).length = EM := ⟨_, rfl⟩
    rw [hEM] at hsz hLB HCUT
    obtain ⟨K, hK, hKl⟩ := place_of x 16777215 (by decide) ((EM : Int) + 1) (EM + 1) (by omega) (by omega)
    rw [show (((16777215 : Nat) : Int)) = 16777215 from rfl] at hK
    obtain ⟨cp2, w2, hrun, hcap2, hB2, hbs2, -, -⟩ := dstr_bytes w1 (lg gs) HLR.out
    rw [hEM] at hrun hcap2 hbs2
    have HEG := hide (show gs.length ≤ gs.length from Nat.le_refl _)
    obtain ⟨G, hG⟩ : ∃ G, gs.length = G := ⟨_, rfl⟩
    rw [hG] at HCL hec HCUT hGs
    have HGL := hide hG
    have hRUN := hide hrun
    have HE0 := hide (en_zero gs)
    clear hrun hEM hG HEG
    rw [HGL.out]
    generalize hSS : strOfNums (lg gs) = SS at *
    clear hSS
    obtain ⟨ga, gc, rfl, hrws, hgc⟩ := HOR.out.rws
    have hyl : ys.length = G := by
      have := congrArg List.length HYM.out
      rw [List.length_map] at this
      rw [this, HGL.out]
    rw [hyl] at hrws ⊢
    have HRW := hide hrws
    have hGc := hrws.2.1.1
    clear hrws HOR hyl
    go_wp2_with fail
    go_loop [9] (fun u => ∃ j : Nat, u = .int .i64 j ∧ j ≤ G ∧ Hid (en gs j ≤ K)) (fun u => G - (intOf u).toNat)
    case atStart => exact ⟨0, rfl, by omega, hide (by rw [HE0.out]; omega)⟩
    case round =>
      obtain ⟨j, rfl, hj, hjK⟩ := hrel
      by_cases hgo : j < G ∧ en gs (j + 1) ≤ K
      · obtain ⟨hlt, hle⟩ := hgo
        have hc1 := HCL.out (j + 1) (by omega)
        have HLE := hide hle
        obtain ⟨EJ1, hE1⟩ : ∃ e, en gs (j + 1) = e := ⟨_, rfl⟩
        rw [hE1] at hc1 hle
        clear hE1
        go_wp2
        go_round
        case rel => exact ⟨j + 1, by go_num, by omega, HLE⟩
        case measure => simp [intOf]; omega
      · have hRP := HCUT.out j K hj (by omega) hjK.out (fun hlt => by
          rcases Nat.lt_or_ge K (en gs (j + 1)) with e | e
          · exact e
          · exact absurd ⟨hlt, e⟩ hgo)
        have RP := hide (replay_any (some ⟨w1.heap.size, 0, none⟩) K cp2 ((lg gs).take K) w2 (by omega) (hbs2.out.takeAt K (by omega)))
        have HRP := hide hRP
        have HTK := hide (HRW.out.take j hj)
        have hx : (j < G ∧ ¬ (en gs (j + 1) ≤ K)) ∨ ¬ (j < G) := by
          rcases Nat.lt_or_ge j G with e | e
          · exact .inl ⟨e, fun e2 => hgo ⟨e, e2⟩⟩
          · exact .inr (by omega)
        have hcj := HCL.out j hj
        have hrun := hRUN.out
        clear hRP hgo
        rcases hx with ⟨hlt, hgt⟩ | hlt
        all_goals
          try (have hc1 := HCL.out (j + 1) (by omega))
          generalize hej1 : en gs (j + 1) = EJ1 at *
          clear hej1
          have hEJ : en gs j ≤ 1000000 := by have := hjK.out; omega
          generalize hej : en gs j = EJ at *
          clear hej
          go_wp2_with fail
          refine RP.out.mono ?_
          rintro e w3 ⟨v3, ys3, rfl, hor3, hym3, hb3, -⟩
          rw [HRP.out] at hym3 ⊢
          have hb13 := hB2.out.trans (hb3.mono hB2.out.size)
          have hgl : eb < w1.heap.size := World.block_lt_of_cell? w1 _ hcj
          have hcj3 := (hb13.cell (p := ⟨eb, j, none⟩) hgl).trans hcj
          have HB3 := hide (HB1.out.trans (hb13.mono HB1.out.size))
          obtain ⟨a3, c3, rfl, hrw3, hc3⟩ := hor3.rws
          have SM := hide (lsame_any a3 ga ys3.length c3 j gc ys3 (ys.take j) w3 hrw3 (HTK.out.below hb13 (Nat.le_refl _)) (Nat.le_trans hrw3.2.1.1 hc3) (by omega))
          rw [show eqLL (ys3.map Sl.l) ((ys.take j).map Sl.l) = true by rw [hym3, List.map_take, HYM.out]; exact eqLL_refl _] at SM
          have hy3 : ys3.length ≤ 9223372036854775807 := Nat.le_trans hrw3.2.1.1 hc3
          clear hb3 hb13 hrun hcj hor3 hym3 hrw3 RP
          go_wp2_with fail
          refine SM.out.mono ?_
          rintro e w4 ⟨rfl, hb4⟩
          have HB4 := hide (bmore HB3.out hb4)
          have AW := hide (lawake_any w4)
          clear hb4 SM hcj3
          go_wp2_with fail
          refine AW.out.mono ?_
          rintro e w5 ⟨rfl, hb5⟩
          have HB5 := hide (bmore HB4.out hb5)
          clear hb5 AW
          go_wp2
          go_ret
          exact ⟨rfl, HB5.out⟩

end Go.Proofs.Ytdldpdllhnpdaaa.Clep
