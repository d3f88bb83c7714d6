/- LogJoins, walked: it answers true. For any batches, parted anywhere. -/
import Derived.Test.YtdldpdllhnpdaaaLc
import Derived.Test.YtdldpdllhnpdaaaLd
import Derived.Test.YtdldpdllhnpdaaaLe
import Derived.Test.YtdldpdllhnpdaaaYf
import Derived.Test.YtdldpdllhnpdaaaZa
import Derived.Test.YtdldpdllhnpdaaaZq
namespace Go.Proofs.Ytdldpdllhnpdaaa.Clep
open Go.RowKit Go.Maps
set_option linter.unusedVariables false
set_option maxRecDepth 10000

set_option maxHeartbeats 4000000 in
theorem joins_walk (a : Option Addr) (n c : Nat) (zs : List Sl) (x : Int) (w : World) (h : Rws w a n c zs) (hn : n ≤ 9223372036854775807) :
    Calls Try.prog 4 #[.slice a n c, .int .i64 x] w fun e w' => e = .returned (.bool true) ∧ Below w.heap.size w w' := by
  have C := hide (few_any a n c zs w h hn)
  have HF := hide (fun e => few_ok h e)
  have HT := hide (fun h15 hs => text_any a n c zs w h h15 hs)
  have HG := hide (gl_good zs (rws_wf h))
  have hlz := hide h.1
  clear h
  generalize fewB n zs = O at *
  go_enter Try.func4, Try.ntmps4
  go_wp2_with fail
  refine C.out.mono ?_
  rintro e w0 ⟨rfl, rfl⟩
  clear C
  cases O with
  | false =>
    have AW := hide (lawake_any w0)
    go_wp2_with fail
    refine AW.out.mono ?_
    rintro e w1 ⟨rfl, hb⟩
    have HB := hide hb
    clear hb AW
    go_wp2
    go_ret
    exact ⟨rfl, HB.out⟩
  | true =>
    obtain ⟨h15, hs150⟩ := HF.out rfl
    have TX := hide (HT.out h15 hs150)
    have hLB := gl_bytes zs (by rw [hlz.out]; exact h15) hs150
    have hGs : (gl zs).length ≤ 15 := Nat.le_trans (gl_size zs).1 (by rw [hlz.out]; exact h15)
    clear HF HT
    go_wp2_with fail
    refine TX.out.mono ?_
    rintro e w1 ⟨gv, eb, ec, ys, rfl, hor, -, hym, hcl, hec, hb1⟩
    have HB1 := hide hb1
    have HCL := hide hcl
    have HOR := hide hor
    have HYM := hide hym
    clear hor hym hcl hb1 TX hlz
    generalize hgs : gl zs = gs at *
    clear hgs
    have hsz : (strOfNums (lg gs)).size = (lg gs).length := str_size _
    have HLR := hide (lg_range gs HG.out)
    obtain ⟨EM, hEM⟩ : ∃ EM, (lg gs).length = EM := ⟨_, rfl⟩
    obtain ⟨G, hG⟩ : ∃ G, gs.length = G := ⟨_, rfl⟩
    rw [hEM] at hsz hLB
    rw [hG] at hGs hec HCL ⊢
    obtain ⟨K, hK, hKl⟩ := place_of x 255 (by decide) ((G : Int) + 1) (G + 1) (by omega) (by omega)
    rw [show (((255 : Nat) : Int)) = 255 from rfl] at hK
    have hcK := HCL.out K (by omega)
    have hEJ : en gs K ≤ EM := by rw [← hEM]; exact en_le gs K
    obtain ⟨EJ, hej⟩ : ∃ EJ, en gs K = EJ := ⟨_, rfl⟩
    have hx1 : (strOfNums (lg gs)).extract 0 EJ = strOfNums (lg (gs.take K)) := by
      rw [str_cut _ _ _ (by rw [hEM]; omega), List.drop_zero, ← hej, lg_take]
    have hx2 : (strOfNums (lg gs)).extract EJ EM = strOfNums (lg (gs.drop K)) := by
      rw [str_cut _ _ _ (by rw [hEM]; exact Nat.le_refl _), List.take_of_length_le (by rw [hEM]; exact Nat.le_refl _), ← hej, lg_drop]
    have HL1 := hide (show (lg (gs.take K)).length = EJ from hej)
    have HL2 := hide (show (lg (gs.drop K)).length = EM - EJ by
      have := congrArg List.length (lg_split gs K)
      rw [List.length_append, hEM, HL1.out] at this
      omega)
    have HA := hide (rp_all (gs.take K) (fun l hl => HG.out l (List.mem_of_mem_take hl)))
    have HD := hide (rp_all (gs.drop K) (fun l hl => HG.out l (List.mem_of_mem_drop hl)))
    have HR1 := hide (lg_range (gs.take K) (fun l hl => HG.out l (List.mem_of_mem_take hl)))
    have HR2 := hide (lg_range (gs.drop K) (fun l hl => HG.out l (List.mem_of_mem_drop hl)))
    obtain ⟨cp2, w2, hrun, hcap2, hB2, hbs2, -, -⟩ := dstr_bytes w1 (lg (gs.take K)) HR1.out
    rw [HL1.out] at hrun hcap2 hbs2 HA
    rw [HL2.out] at HD
    have RP := hide (replay_any (some ⟨w1.heap.size, 0, none⟩) EJ cp2 (lg (gs.take K)) w2 (by omega) hbs2.out)
    rw [hej] at hcK hEJ
    have HCUT := hide (show gs.take K ++ gs.drop K = gs from List.take_append_drop K gs)
    have hdl : (gs.take K).length ≤ 15 ∧ (gs.drop K).length ≤ 15 := by rw [List.length_take, List.length_drop]; omega
    have HGL := hide hG
    obtain ⟨ga, gc, rfl, hrws, hgc⟩ := HOR.out.rws
    have hyl : ys.length = G := by
      have := congrArg List.length HYM.out
      rw [List.length_map] at this
      rw [this, HGL.out]
    rw [hyl] at hrws ⊢
    have HRW := hide hrws
    have hGc := hrws.2.1.1
    clear hrws HOR hyl hej hEM hG HG HLR
    generalize hSS : strOfNums (lg gs) = SS at *
    clear hSS
    generalize hS1 : strOfNums (lg (gs.take K)) = S1 at *
    clear hS1
    go_wp2_with fail
    refine RP.out.mono ?_
    rintro e w3 ⟨v3, ys3, rfl, hor3, hym3, hb3, -⟩
    rw [HA.out] at hym3 ⊢
    have hb13 := hB2.out.trans (hb3.mono hB2.out.size)
    have hgl : eb < w1.heap.size := World.block_lt_of_cell? w1 _ hcK
    have hc3 := (hb13.cell (p := ⟨eb, K, none⟩) hgl).trans hcK
    have HB3 := hide (HB1.out.trans (hb13.mono HB1.out.size))
    have HG3 := hide (HRW.out.below hb13 (Nat.le_refl _))
    have HO3 := hide hor3
    have HB13 := hide hb13
    have HM3 := hide (show ys3.map Sl.l = gs.take K from hym3)
    obtain ⟨cp4, w4, hrun4, hcap4, hB4, hbs4, -, -⟩ := dstr_bytes w3 (lg (gs.drop K)) HR2.out
    rw [HL2.out] at hrun4 hcap4 hbs4
    have RP4 := hide (replay_any (some ⟨w3.heap.size, 0, none⟩) (EM - EJ) cp4 (lg (gs.drop K)) w4 (by omega) hbs4.out)
    have hgl3 : eb < w3.heap.size := World.block_lt_of_cell? w3 _ hc3
    clear hb3 hb13 hor3 hym3 hcK hrun RP hgl
    generalize hS2 : strOfNums (lg (gs.drop K)) = S2 at *
    clear hS2
    go_wp2_with fail
    refine RP4.out.mono ?_
    rintro e w5 ⟨v5, ys5, rfl, hor5, hym5, hb5, hnw5⟩
    rw [HD.out] at hym5 ⊢
    have hb35 := hB4.out.trans (hb5.mono hB4.out.size)
    have hc5 := (hb35.cell (p := ⟨eb, K, none⟩) hgl3).trans hc3
    have HB5 := hide (HB3.out.trans (hb35.mono HB3.out.size))
    have HG5 := hide (HG3.out.below hb35 (Nat.le_refl _))
    have hO5 := HO3.out.keep hb35
    replace hym5 : ys5.map Sl.l = gs.drop K := hym5
    obtain ⟨a5, c5, rfl, hrw5, hcm5⟩ := hor5.rws
    have hl3 : ys3.length ≤ 15 := by have := congrArg List.length HM3.out; rw [List.length_map] at this; omega
    have hl5 : ys5.length ≤ 15 := by have := congrArg List.length hym5; rw [List.length_map] at this; omega
    have HB15 := hide (HB13.out.trans (hb35.mono HB13.out.size))
    obtain ⟨v6, w6, hrun6, ho6, -, hb6⟩ := run_append_rows 33 w1.heap.size v3 ys3 (hO5.base hB2.out.size) a5 ys5.length c5 ys5 hrw5 (fun z hz h0 x hx e => by
      have h1 := hnw5 z hz h0 x hx
      have h2 := (World.ownsRow.lt HO3.out.own _ e).2
      have := hB4.out.size
      omega) (by omega) HB15.out.size
    have HM6 := hide (show (ys3 ++ ys5).map Sl.l = gs by rw [List.map_append, HM3.out, hym5]; exact HCUT.out)
    have HB16 := hide (HB15.out.trans hb6)
    have HB6 := hide (HB1.out.trans (HB16.out.mono HB1.out.size))
    have HG6 := hide (HRW.out.below HB16.out (Nat.le_refl _))
    obtain ⟨a6, c6, hv6, hrw6, hcm6⟩ := ho6.rws
    have hl6 : (ys3 ++ ys5).length ≤ 30 := by rw [List.length_append]; omega
    have SM := hide (lsame_any a6 ga (ys3 ++ ys5).length c6 G gc (ys3 ++ ys5) ys w6 hrw6 HG6.out (by omega) (by omega))
    rw [show eqLL ((ys3 ++ ys5).map Sl.l) (ys.map Sl.l) = true by rw [HM6.out, HYM.out]; exact eqLL_refl _, ← hv6] at SM
    obtain ⟨a3, c3, hv3, -, -⟩ := HO3.out.rws
    subst hv3
    clear hv6 hrw6 ho6 hb6 hb5 hb35 hor5 hym5 hrw5 hO5 hnw5 hc3 hgl3 hrun4 RP4 HO3 HM3 HG3 HG5 HB3 HB5 HB13 HB15
    have hEE : (EM : Int) - (EJ : Int) = ((EM - EJ : Nat) : Int) := by omega
    generalize hEN : EM - EJ = EN at *
    have HRUN := hide hrun6
    clear hrun6
    go_wp2_with (first
      | (at_builtin; refine wpList_append_known (by rfl) (.tmp 80) (.tmp 81) 33 rfl _ _ _ _ rfl rfl HRUN.out ?_)
      | fail)
    refine SM.out.mono ?_
    rintro e w7 ⟨rfl, hb7⟩
    have HB7 := hide (bmore HB6.out hb7)
    have AW := hide (lawake_any w7)
    clear hb7 SM
    go_wp2_with fail
    refine AW.out.mono ?_
    rintro e w8 ⟨rfl, hb8⟩
    have HB8 := hide (bmore HB7.out hb8)
    clear hb8 AW
    go_wp2
    go_ret
    exact ⟨rfl, HB8.out⟩

end Go.Proofs.Ytdldpdllhnpdaaa.Clep
