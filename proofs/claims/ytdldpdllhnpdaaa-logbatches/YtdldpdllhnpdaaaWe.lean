/- LogBatches, walked: it answers true. For any batches, any bytes, any change of a log. -/
import Derived.Test.YtdldpdllhnpdaaaWd
import Derived.Test.YtdldpdllhnpdaaaLc
import Derived.Test.YtdldpdllhnpdaaaLd
import Derived.Test.YtdldpdllhnpdaaaLe
import Derived.Test.YtdldpdllhnpdaaaLf
import Derived.Test.YtdldpdllhnpdaaaLg
import Derived.Test.YtdldpdllhnpdaaaYf
import Derived.Test.YtdldpdllhnpdaaaZa
namespace Go.Proofs.Ytdldpdllhnpdaaa.Clep
open Go.RowKit Go.Maps
set_option linter.unusedVariables false

set_option maxRecDepth 10000 in
set_option maxHeartbeats 8000000 in
theorem batches_walk (a : Option Addr) (n c : Nat) (zs : List Sl) (ab : Option Addr) (bn bc : Nat) (bs0 : List Int) (x : Int) (by9 : Int) (cut9 : Int) (at9 : Option Addr) (tn tc : Nat) (ts : List Int) (w : World)
    (h : Rws w a n c zs) (hn : n ≤ 9223372036854775807) (hb0 : Bs w ab bn bc bs0) (hbn : bn ≤ 9223372036854775807) (ht0 : Bs w at9 tn tc ts) (htn : tn ≤ 9223372036854775807) :
    Calls Try.prog 5 #[.slice a n c, .slice ab bn bc, .int .i64 x, .int .u8 by9, .int .i64 cut9, .slice at9 tn tc] w fun e w' => e = .returned (.bool true) ∧ Below w.heap.size w w' := by
  have C := hide (few_any a n c zs w h hn)
  have HF := hide (fun e => few_ok h e)
  have H0 := hide (fun W (hW : Below w.heap.size w W) => h.below hW (Nat.le_refl _))
  have HBB := hide (fun W (hW : Below w.heap.size w W) => hb0.below hW (Nat.le_refl _))
  have HTT := hide (fun W (hW : Below w.heap.size w W) => ht0.below hW (Nat.le_refl _))
  have HG := hide (gl_good zs (rws_wf h))
  have hlz := hide h.1
  clear h hb0 ht0
  generalize fewB n zs = O at *
  go_enter Try.func5, Try.ntmps5
  go_wp2_with fail
  refine C.out.mono ?_
  rintro e w0 ⟨rfl, rfl⟩
  clear C
  by_cases hno : O = false ∨ 3000 < bn ∨ 100 < tn
  · cases O with
    | false =>
      have AW := hide (lawake_any w0)
      go_wp2_with fail
      refine AW.out.mono ?_
      rintro e w1 ⟨rfl, hb⟩
      have HBA := hide (hb)
      clear hb AW
      go_wp2
      go_ret
      exact ⟨rfl, HBA.out⟩
    | true =>
      by_cases h3 : 3000 < bn
      · have h3' : (3000 : Int) < (bn : Int) := by omega
        have AW := hide (lawake_any w0)
        go_wp2_with fail
        refine AW.out.mono ?_
        rintro e w1 ⟨rfl, hb⟩
        have HBA := hide (hb)
        clear hb AW
        go_wp2
        go_ret
        exact ⟨rfl, HBA.out⟩
      · have h3' : ¬ ((3000 : Int) < (bn : Int)) := by omega
        have h4 : 100 < tn := by
          rcases hno with e | e | e
          · cases e
          · exact absurd e h3
          · exact e
        have h4' : (100 : Int) < (tn : Int) := by omega
        clear hno h3
        have AW := hide (lawake_any w0)
        go_wp2_with fail
        refine AW.out.mono ?_
        rintro e w1 ⟨rfl, hb⟩
        have HBA := hide (hb)
        clear hb AW
        go_wp2
        go_ret
        exact ⟨rfl, HBA.out⟩
  · have hO : O = true := by
      cases O with
      | true => rfl
      | false => exact absurd (.inl rfl) hno
    have hb3 : bn ≤ 3000 := by omega
    have ht1 : tn ≤ 100 := by omega
    have hb3' : ¬ ((3000 : Int) < (bn : Int)) := by omega
    have ht1' : ¬ ((100 : Int) < (tn : Int)) := by omega
    subst hO
    obtain ⟨h15, hs150⟩ := HF.out rfl
    have hLB := gl_bytes zs (by rw [hlz.out]; exact h15) hs150
    have hGs : (gl zs).length ≤ 15 := Nat.le_trans (gl_size zs).1 (by rw [hlz.out]; exact h15)
    clear HF hno
    go_wp2_with fail
    go_loopw [13] (fun i wr => ∃ k : Nat, k ≤ n ∧ i = .int .i64 k ∧ Hid (Below w0.heap.size w0 wr)) (fun i _ => n - (intOf i).toNat)
    case atStart => exact ⟨0, by omega, rfl, hide (Below.refl _ _)⟩
    case round =>
      obtain ⟨k, hk, rfl, hbel⟩ := hrel
      by_cases hlt : k < n
      · obtain ⟨z, b0, off0, hz, ea, hc0, hi0, hn0⟩ := rws_at (H0.out _ hbel.out) k hlt
        subst ea
        have hcl := hide (fun W (hW : Below wr.heap.size wr W) => (hW.cell (p := ⟨b0, off0 + k, none⟩) (World.block_lt_of_cell? wr _ hc0)).trans hc0)
        have hIz := hide (fun W (hW : Below wr.heap.size wr W) => hi0.below hW (Nat.le_refl _))
        have BT := hide (batch_any _ _ _ _ wr hi0 hn0)
        have hwz := hide hi0.2.2.1
        obtain ⟨za, zn, zc, zl⟩ := z
        simp only at hcl hIz BT hn0 hc0 hwz
        obtain ⟨E, hE⟩ : ∃ E, bmay zl = E := ⟨_, rfl⟩
        rw [hE] at BT
        have HE := hide hE
        clear hi0 hz hE
        go_wp2_with fail
        refine BT.out.mono ?_
        rintro e w1 ⟨v1, rfl, ho1, hb1⟩
        have HO1 := hide ho1
        have HB1 := hide hb1
        obtain ⟨a1, c1, hv1⟩ := own_shape ho1
        have hc1' := hcl.out _ hb1
        have RM := hide (rmay_any za zn zc zl w1 (hIz.out _ hb1) hn0)
        rw [HE.out] at RM
        clear ho1 hb1 BT hc0
        subst hv1
        have HLB := hide (show E ≠ 0 → (if E = 0 then bt zl else []).length = 0 from fun h => by rw [if_neg h]; rfl)
        have HOB := hide (show E = 0 → Own w1 wr.heap.size (.slice a1 (if E = 0 then bt zl else []).length c1) (bt zl) from fun h => by have := HO1.out; rw [if_pos h] at this; rw [if_pos h]; exact this)
        have HLN := hide (show E = 0 → (if E = 0 then bt zl else []).length = (bt zl).length from fun h => by rw [if_pos h])
        generalize (if E = 0 then bt zl else []).length = LB at *
        clear HO1
        go_wp2_with fail
        refine RM.out.mono ?_
        rintro e w2 ⟨rfl, hb2⟩
        have HB2 := hide (bmore HB1.out hb2)
        have HB02 := hide (bmore hbel.out HB2.out)
        by_cases hE0 : E = 0
        · subst hE0
          have hg := bg_of hwz.out HE.out
          have hO2 := HOB.out rfl
          have hL2 := HLN.out rfl
          obtain ⟨a1', c1', hv, -, hBs, -⟩ := own_bs hO2 (range_of (bt_range hg))
          injection hv with e1 e2 e3
          subst e1 e3
          rw [← hL2] at hBs
          have hB2 := hBs.below hb2 (Nat.le_refl _)
          have cv : ∀ p : Kp w2, (convert 26 9 (.slice a1 LB c1)).run Try.prog p.W = .ok (.string (strOfNums (bt zl))) p.W := fun p => conv_bs (hB2.below p.h (Nat.le_refl _))
          have d0 : ∀ p : Kp w2, p.W.cell? ⟨b0, off0 + k, none⟩ = some (.slice za zn zc) := fun p => hcl.out _ (bmore HB2.out p.h)
          have cB : Hid (∀ p : Kp w2, Calls Try.prog 15 #[.slice za zn zc] p.W fun e w'' => e = .returned (.string (strOfNums (bt zl))) ∧ ∃ q : Kp w2, w'' = q.W) := hide fun p => kp_call (rbatch_any za zn zc zl p.W (hIz.out _ (bmore HB2.out p.h)) hg)
          have hne : Nonempty (Kp w2) := ⟨⟨_, Below.refl _ _⟩⟩
          generalize strOfNums (bt zl) = SB at *
          clear hO2 hL2 hBs hB2 hg HOB HLN hb2 RM hc1' e2
          go_wp2_with fail
          refine wp_region_kept (by kernel_rfl) (by kernel_rfl) ?_
          repeat (first
            | go_big_quiet_step (first | (go_at_call 15; exact cB.out _))
            | fail)
          refine wpQuiet_nil ?_
          intro w9 hw'
          have hb9 : Hid (Below w0.heap.size w0 w9) := by
            obtain ⟨⟨w3', hb3⟩, hw''⟩ := hw'
            rw [hw'']; exact hide (bmore HB02.out hb3)
          clear hw' hne cB d0 cv
          go_wp2
          go_roundw
          case rel => exact ⟨k + 1, by omega, by go_num, hb9⟩
          case measure => simp [intOf]; omega
        · obtain rfl : LB = 0 := HLB.out hE0
          have hEb : (E == 0) = false := by simpa using hE0
          have hEn : (E != 0) = true := by simpa using hE0
          have hne : Nonempty (Kp w2) := ⟨⟨_, Below.refl _ _⟩⟩
          clear HLB HOB HLN hb2 RM hc1'
          go_wp2_with fail
          refine wp_region_kept (by kernel_rfl) (by kernel_rfl) ?_
          repeat (first
            | go_big_quiet_step (fail)
            | fail)
          refine wpQuiet_nil ?_
          intro w9 hw'
          have hb9 : Hid (Below w0.heap.size w0 w9) := by
            obtain ⟨⟨w3', hb3⟩, hw''⟩ := hw'
            rw [hw'']; exact hide (bmore HB02.out hb3)
          clear hw' hne
          go_wp2
          go_roundw
          case rel => exact ⟨k + 1, by omega, by go_num, hb9⟩
          case measure => simp [intOf]; omega
      · obtain rfl : k = n := by omega
        have TX := hide (text_any a k c zs wr (H0.out _ hbel.out) h15 hs150)
        clear hlt hk
        go_wp2_with fail
        refine TX.out.mono ?_
        rintro e w1 ⟨gv, eb, ec, ys, rfl, hor, -, hym, -, -, hb1⟩
        have HB1 := hide (bmore hbel.out hb1)
        have HOR := hide hor
        have HYM := hide hym
        clear hor hym hb1 TX hlz
        generalize hgs : gl zs = gs at *
        clear hgs
        have hsz : (strOfNums (lg gs)).size = (lg gs).length := str_size _
        have HLR := hide (lg_range gs HG.out)
        have HALL := hide (rp_all gs HG.out)
        obtain ⟨EM, hEM⟩ : ∃ EM, (lg gs).length = EM := ⟨_, rfl⟩
        have HEM := hide hEM
        rw [hEM] at hsz hLB HALL
        obtain ⟨ga, gc, rfl, hrws, hgc⟩ := HOR.out.rws
        have hyl : ys.length ≤ 15 := by
          have := congrArg List.length HYM.out
          rw [List.length_map] at this
          omega
        have HRW := hide hrws
        obtain ⟨cp2, w2, hrun, hcap2, hB2, hbs2, -, -⟩ := dstr_bytes w1 (lg gs) HLR.out
        rw [hEM] at hrun hcap2 hbs2
        have RP := hide (replay_any (some ⟨w1.heap.size, 0, none⟩) EM cp2 (lg gs) w2 (by omega) hbs2.out)
        have HSL := hide (fun W => rm_str W (lg gs) HLR.out (by rw [hEM]; unfold maxLen; omega))
        rw [hEM] at HSL
        obtain ⟨SS, hSS⟩ : ∃ SS, strOfNums (lg gs) = SS := ⟨_, rfl⟩
        rw [hSS] at hrun hsz HSL ⊢
        generalize ys.length = GL at *
        clear hrws HOR hEM HG hSS
        go_wp2_with fail
        refine RP.out.mono ?_
        rintro e w3 ⟨v3, ys3, rfl, hor3, hym3, hb3x, -⟩
        rw [HALL.out] at hym3 ⊢
        replace hym3 : ys3.map Sl.l = gs := hym3
        have hb13 := hB2.out.trans (hb3x.mono hB2.out.size)
        obtain ⟨a3, c3, rfl, hrw3, hc3⟩ := hor3.rws
        have SM := hide (lsame_any a3 ga ys3.length c3 GL gc ys3 ys w3 hrw3 (HRW.out.below hb13 (Nat.le_refl _)) (Nat.le_trans hrw3.2.1.1 hc3) (by omega))
        rw [show eqLL (ys3.map Sl.l) (ys.map Sl.l) = true by rw [hym3, HYM.out]; exact eqLL_refl _] at SM
        have HB3 := hide (HB1.out.trans (hb13.mono HB1.out.size))
        clear hb3x hb13 hor3 hym3 hrw3 RP hrun hB2 hbs2 hcap2
        go_wp2_with fail
        refine SM.out.mono ?_
        rintro e w4 ⟨rfl, hb4⟩
        have HB4 := hide (bmore HB3.out hb4)
        clear hb4 SM HB3
        obtain ⟨cap, w5, hrun, hcap, hb5, hrm⟩ := HSL.out w4
        have HB5 := hide (bmore HB4.out hb5.out)
        have HGW : Hid (w0.heap.size ≤ w4.heap.size) := hide HB4.out.size
        generalize w4.heap.size = g at *
        clear hb5 HSL HRW HYM HALL
        rcases Nat.eq_zero_or_pos EM with hE0 | hE0
        · subst hE0
          have hand := and_mask cut9 65535 (by omega)
          have hsl : ∀ W : World, (Instr.sliceAt 26 (.slice (some ⟨g, 0, none⟩) 0 cap) none (some (.int .i64 0)) none).run Try.prog W = .ok (.slice (some ⟨g, 0, none⟩) 0 cap) W := fun W => by
            have := cut_h W (some ⟨g, 0, none⟩) 0 cap .i64 0 (by omega) (by omega)
            rw [this]
            have e2 : cut (some ⟨g, 0, none⟩) cap 0 = some ⟨g, 0, none⟩ := by unfold cut; split <;> simp [add_plain]
            rw [e2]; rfl
          have hT := hide (HTT.out _ HB5.out)
          have hln := HEM.out
          go_wp2_with (first
            | (at_builtin; refine wpList_app_cut rfl _ _ rfl w0.heap.size g 0 cap (lg gs) rfl hrm.out (by omega) HGW.out HB5.out.size at9 tn tc ts rfl hT.out (by omega) ?_)
            | fail)
          intro ac cc w6 g1 g2
          have S6 : Hid (Bs w6 ac tn cc ts) := hide (by first | exact g1 | simpa using g1)
          have B6 := hide (HB5.out.trans g2)
          have hlc : tn ≤ 100000 := by omega
          have A6 := hide (HBB.out _ B6.out)
          clear g1 g2 hsl hrun hT HB5 hrm hln
          clear H0 HTT HBB HGW HEM HLR
          go_wp2_with fail
          go_loopw [1, 24] (fun b u wr => ∃ (i : Nat) (ax : Option Addr) (lb cb : Nat) (xs : List Int), u = .int .i64 i ∧ i ≤ 2 ∧ b = .slice ax lb cb ∧ lb ≤ 100000 ∧ Hid (Bs w6 ax lb cb xs) ∧ Hid (Below w6.heap.size w6 wr)) (fun _ u _ => 2 - (intOf u).toNat)
          case atStart => exact ⟨0, ab, bn, bc, bs0, rfl, by omega, rfl, by omega, A6, hide (Below.refl _ _)⟩
          case round =>
            obtain ⟨i, ax, lb, cb, xs, rfl, hi, rfl, hlb, hSb, hBr⟩ := hrel
            by_cases h2 : i < 2
            · by_cases h1 : i = 1
              · subst h1
                have hSx := hide (S6.out.below hBr.out (Nat.le_refl _))
                have hlx := hide hSx.out.1
                have RP := hide (replay_any ac tn cc ts wr (by omega) hSx.out)
                have RRX := hide (fun W => rreplay_any ts W (by rw [hlx.out]; omega) (bs_range hSx.out))
                go_wp2_with fail
                refine RP.out.mono ?_
                rintro e w7 ⟨v6, ys6, rfl, hor6, hym6, hb6, -⟩
                have hcv := conv_bs (hSx.out.below hb6 (Nat.le_refl _))
                have RR := hide (RRX.out w7)
                have B6' := hide (hBr.out.trans (hb6.mono hBr.out.size))
                have HO6 := hide hor6
                have HM6 := hide hym6
                generalize strOfNums ts = SX at *
                clear hb6 hor6 hym6 RP RRX
                go_wp2_with fail
                refine RR.out.mono ?_
                rintro e w8 ⟨v7, ys7, rfl, hor7, hym7, hb7, -⟩
                have hO6 := HO6.out.keep hb7
                obtain ⟨a6, c6, rfl, hrw6, hcm6⟩ := hO6.rws
                obtain ⟨a7, c7, rfl, hrw7, hcm7⟩ := hor7.rws
                have SM := hide (lsame_any a6 a7 ys6.length c6 ys7.length c7 ys6 ys7 w8 hrw6 hrw7 (Nat.le_trans hrw6.2.1.1 hcm6) (Nat.le_trans hrw7.2.1.1 hcm7))
                rw [show eqLL (ys6.map Sl.l) (ys7.map Sl.l) = true by rw [HM6.out, hym7]; exact eqLL_refl _] at SM
                have B7 := hide (B6'.out.trans (hb7.mono B6'.out.size))
                generalize (rp ts).2.1 = R1 at *
                generalize (rp ts).2.2 = R2 at *
                clear hb7 hor7 hym7 RR hO6 hrw6 hrw7 HO6 HM6 hcv
                go_wp2_with fail
                refine SM.out.mono ?_
                rintro e w9 ⟨rfl, hb8⟩
                have B8 := hide (B7.out.trans (hb8.mono B7.out.size))
                clear hb8 SM B7
                go_wp2
                go_roundw
                case rel => exact ⟨2, ac, tn, cc, ts, by go_num, by omega, rfl, by omega, S6, B8⟩
                case measure => simp [intOf]
              · obtain rfl : i = 0 := by omega
                have hSx := hide (hSb.out.below hBr.out (Nat.le_refl _))
                have hlx := hide hSx.out.1
                have RP := hide (replay_any ax lb cb xs wr (by omega) hSx.out)
                have RRX := hide (fun W => rreplay_any xs W (by rw [hlx.out]; omega) (bs_range hSx.out))
                go_wp2_with fail
                refine RP.out.mono ?_
                rintro e w7 ⟨v6, ys6, rfl, hor6, hym6, hb6, -⟩
                have hcv := conv_bs (hSx.out.below hb6 (Nat.le_refl _))
                have RR := hide (RRX.out w7)
                have B6' := hide (hBr.out.trans (hb6.mono hBr.out.size))
                have HO6 := hide hor6
                have HM6 := hide hym6
                generalize strOfNums xs = SX at *
                clear hb6 hor6 hym6 RP RRX
                go_wp2_with fail
                refine RR.out.mono ?_
                rintro e w8 ⟨v7, ys7, rfl, hor7, hym7, hb7, -⟩
                have hO6 := HO6.out.keep hb7
                obtain ⟨a6, c6, rfl, hrw6, hcm6⟩ := hO6.rws
                obtain ⟨a7, c7, rfl, hrw7, hcm7⟩ := hor7.rws
                have SM := hide (lsame_any a6 a7 ys6.length c6 ys7.length c7 ys6 ys7 w8 hrw6 hrw7 (Nat.le_trans hrw6.2.1.1 hcm6) (Nat.le_trans hrw7.2.1.1 hcm7))
                rw [show eqLL (ys6.map Sl.l) (ys7.map Sl.l) = true by rw [HM6.out, hym7]; exact eqLL_refl _] at SM
                have B7 := hide (B6'.out.trans (hb7.mono B6'.out.size))
                generalize (rp xs).2.1 = R1 at *
                generalize (rp xs).2.2 = R2 at *
                clear hb7 hor7 hym7 RR hO6 hrw6 hrw7 HO6 HM6 hcv
                go_wp2_with fail
                refine SM.out.mono ?_
                rintro e w9 ⟨rfl, hb8⟩
                have B8 := hide (B7.out.trans (hb8.mono B7.out.size))
                clear hb8 SM B7
                go_wp2
                go_roundw
                case rel => exact ⟨1, ax, lb, cb, xs, by go_num, by omega, rfl, by omega, hSb, B8⟩
                case measure => simp [intOf]
            · obtain rfl : i = 2 := by omega
              have HBE := hide (B6.out.trans (hBr.out.mono B6.out.size))
              have AW := hide (lawake_any wr)
              clear hBr hSb
              go_wp2_with fail
              refine AW.out.mono ?_
              rintro e w7 ⟨rfl, hb⟩
              have HBA := hide (bmore HBE.out hb)
              clear hb AW
              go_wp2
              go_ret
              exact ⟨rfl, HBA.out⟩
        · have hpos : (0 : Int) < (EM : Int) := by omega
          obtain ⟨P, hP0, hQ0⟩ := place_of x 16777215 (by omega) (EM : Int) EM rfl hE0
          rw [show (((16777215 : Nat) : Int)) = 16777215 from rfl] at hP0
          obtain ⟨Y, hY0, hY9⟩ := place_of cut9 65535 (by omega) ((EM : Int) + 1) (EM + 1) (by omega) (by omega)
          rw [show (((65535 : Nat) : Int)) = 65535 from rfl] at hY0
          have hPi : (P : Int) < (EM : Int) := by omega
          have cP := hrm.out.cell P (by rw [HEM.out]; exact hQ0)
          have fP := hrm.out.free P (by omega)
          have RM := hide (hrm.out.set P (by rw [HEM.out]; exact hQ0) _ (xor_range ((lg gs).getD P 0) by9))
          have B5 := hide (HB5.out.trans ((Ch.set (P := fun b => b = g) w5 ⟨g, P, none⟩ (.int .u8 (bits BinOp.xor IntKind.u8 ((lg gs).getD P 0) by9)) rfl).below HB5.out.size fun j e => by rw [e]; exact HGW.out))
          have hl5 : Hid (((lg gs).set P (bits BinOp.xor IntKind.u8 ((lg gs).getD P 0) by9)).length = EM) := hide (by rw [List.length_set]; exact HEM.out)
          generalize (lg gs).set P (bits BinOp.xor IntKind.u8 ((lg gs).getD P 0) by9) = ds at *
          obtain ⟨nc, hnc⟩ : ∃ nc : Nat, EM - Y = nc := ⟨_, rfl⟩
          have hnci : (EM : Int) - (Y : Int) = (nc : Int) := by omega
          have hnL : nc ≤ EM := by omega
          have hsl : ∀ W : World, (Instr.sliceAt 26 (.slice (some ⟨g, 0, none⟩) EM cap) none (some (.int .i64 (nc : Int))) none).run Try.prog W = .ok (.slice (some ⟨g, 0, none⟩) nc cap) W := fun W => by
            have := cut_h W (some ⟨g, 0, none⟩) EM cap .i64 (nc : Int) (by omega) (by omega)
            rw [this]
            have e1 : (nc : Int).toNat = nc := by omega
            have e2 : cut (some ⟨g, 0, none⟩) cap 0 = some ⟨g, 0, none⟩ := by unfold cut; split <;> simp [add_plain]
            rw [e1, e2]
          have hT := hide (HTT.out _ B5.out)
          generalize (lg gs).getD P 0 = z0 at *
          clear hrm HB5 hnc
          go_wp2_with (first
            | (at_builtin; refine wpList_app_cut rfl _ _ rfl w0.heap.size g nc cap ds rfl RM.out (by rw [hl5.out]; exact hnL) HGW.out B5.out.size at9 tn tc ts rfl hT.out (by omega) ?_)
            | fail)
          intro ac cc w6 g1 g2
          have S6 := hide g1
          have B6 := hide (B5.out.trans g2)
          have hlc : nc + tn ≤ 100000 := by omega
          generalize ds.take nc ++ ts = es at *
          generalize nc + tn = lc at *
          have A6 := hide (HBB.out _ B6.out)
          clear g1 g2 hsl hrun hT B5 RM cP fP hl5 hPi hP0 hY0 hnci
          clear H0 HTT HBB HGW HEM HLR
          go_wp2_with fail
          go_loopw [1, 24] (fun b u wr => ∃ (i : Nat) (ax : Option Addr) (lb cb : Nat) (xs : List Int), u = .int .i64 i ∧ i ≤ 2 ∧ b = .slice ax lb cb ∧ lb ≤ 100000 ∧ Hid (Bs w6 ax lb cb xs) ∧ Hid (Below w6.heap.size w6 wr)) (fun _ u _ => 2 - (intOf u).toNat)
          case atStart => exact ⟨0, ab, bn, bc, bs0, rfl, by omega, rfl, by omega, A6, hide (Below.refl _ _)⟩
          case round =>
            obtain ⟨i, ax, lb, cb, xs, rfl, hi, rfl, hlb, hSb, hBr⟩ := hrel
            by_cases h2 : i < 2
            · by_cases h1 : i = 1
              · subst h1
                have hSx := hide (S6.out.below hBr.out (Nat.le_refl _))
                have hlx := hide hSx.out.1
                have RP := hide (replay_any ac lc cc es wr (by omega) hSx.out)
                have RRX := hide (fun W => rreplay_any es W (by rw [hlx.out]; omega) (bs_range hSx.out))
                go_wp2_with fail
                refine RP.out.mono ?_
                rintro e w7 ⟨v6, ys6, rfl, hor6, hym6, hb6, -⟩
                have hcv := conv_bs (hSx.out.below hb6 (Nat.le_refl _))
                have RR := hide (RRX.out w7)
                have B6' := hide (hBr.out.trans (hb6.mono hBr.out.size))
                have HO6 := hide hor6
                have HM6 := hide hym6
                generalize strOfNums es = SX at *
                clear hb6 hor6 hym6 RP RRX
                go_wp2_with fail
                refine RR.out.mono ?_
                rintro e w8 ⟨v7, ys7, rfl, hor7, hym7, hb7, -⟩
                have hO6 := HO6.out.keep hb7
                obtain ⟨a6, c6, rfl, hrw6, hcm6⟩ := hO6.rws
                obtain ⟨a7, c7, rfl, hrw7, hcm7⟩ := hor7.rws
                have SM := hide (lsame_any a6 a7 ys6.length c6 ys7.length c7 ys6 ys7 w8 hrw6 hrw7 (Nat.le_trans hrw6.2.1.1 hcm6) (Nat.le_trans hrw7.2.1.1 hcm7))
                rw [show eqLL (ys6.map Sl.l) (ys7.map Sl.l) = true by rw [HM6.out, hym7]; exact eqLL_refl _] at SM
                have B7 := hide (B6'.out.trans (hb7.mono B6'.out.size))
                generalize (rp es).2.1 = R1 at *
                generalize (rp es).2.2 = R2 at *
                clear hb7 hor7 hym7 RR hO6 hrw6 hrw7 HO6 HM6 hcv
                go_wp2_with fail
                refine SM.out.mono ?_
                rintro e w9 ⟨rfl, hb8⟩
                have B8 := hide (B7.out.trans (hb8.mono B7.out.size))
                clear hb8 SM B7
                go_wp2
                go_roundw
                case rel => exact ⟨2, ac, lc, cc, es, by go_num, by omega, rfl, by omega, S6, B8⟩
                case measure => simp [intOf]
              · obtain rfl : i = 0 := by omega
                have hSx := hide (hSb.out.below hBr.out (Nat.le_refl _))
                have hlx := hide hSx.out.1
                have RP := hide (replay_any ax lb cb xs wr (by omega) hSx.out)
                have RRX := hide (fun W => rreplay_any xs W (by rw [hlx.out]; omega) (bs_range hSx.out))
                go_wp2_with fail
                refine RP.out.mono ?_
                rintro e w7 ⟨v6, ys6, rfl, hor6, hym6, hb6, -⟩
                have hcv := conv_bs (hSx.out.below hb6 (Nat.le_refl _))
                have RR := hide (RRX.out w7)
                have B6' := hide (hBr.out.trans (hb6.mono hBr.out.size))
                have HO6 := hide hor6
                have HM6 := hide hym6
                generalize strOfNums xs = SX at *
                clear hb6 hor6 hym6 RP RRX
                go_wp2_with fail
                refine RR.out.mono ?_
                rintro e w8 ⟨v7, ys7, rfl, hor7, hym7, hb7, -⟩
                have hO6 := HO6.out.keep hb7
                obtain ⟨a6, c6, rfl, hrw6, hcm6⟩ := hO6.rws
                obtain ⟨a7, c7, rfl, hrw7, hcm7⟩ := hor7.rws
                have SM := hide (lsame_any a6 a7 ys6.length c6 ys7.length c7 ys6 ys7 w8 hrw6 hrw7 (Nat.le_trans hrw6.2.1.1 hcm6) (Nat.le_trans hrw7.2.1.1 hcm7))
                rw [show eqLL (ys6.map Sl.l) (ys7.map Sl.l) = true by rw [HM6.out, hym7]; exact eqLL_refl _] at SM
                have B7 := hide (B6'.out.trans (hb7.mono B6'.out.size))
                generalize (rp xs).2.1 = R1 at *
                generalize (rp xs).2.2 = R2 at *
                clear hb7 hor7 hym7 RR hO6 hrw6 hrw7 HO6 HM6 hcv
                go_wp2_with fail
                refine SM.out.mono ?_
                rintro e w9 ⟨rfl, hb8⟩
                have B8 := hide (B7.out.trans (hb8.mono B7.out.size))
                clear hb8 SM B7
                go_wp2
                go_roundw
                case rel => exact ⟨1, ax, lb, cb, xs, by go_num, by omega, rfl, by omega, hSb, B8⟩
                case measure => simp [intOf]
            · obtain rfl : i = 2 := by omega
              have HBE := hide (B6.out.trans (hBr.out.mono B6.out.size))
              have AW := hide (lawake_any wr)
              clear hBr hSb
              go_wp2_with fail
              refine AW.out.mono ?_
              rintro e w7 ⟨rfl, hb⟩
              have HBA := hide (bmore HBE.out hb)
              clear hb AW
              go_wp2
              go_ret
              exact ⟨rfl, HBA.out⟩

end Go.Proofs.Ytdldpdllhnpdaaa.Clep
