/- What the statement TableHostile does when called: true. No conditions but that the arguments lie in memory. -/
import Derived.Test.YtodhljiboakjnaaGreatQl
import Derived.Test.YtodhljiboakjnaaGreatQi
import Derived.Test.YtodhljiboakjnaaGreatQm
import Derived.Test.YtodhljiboakjnaaGreatZv
import Derived.Test.YtodhljiboakjnaaGreatWc
import Derived.Test.YtodhljiboakjnaaGreatWd
import Derived.Test.YtodhljiboakjnaaGreatZa
import Derived.Deep.RegionHeldLaw
import Derived.Deep.RegionWith
namespace Go.Proofs.YtodhljiboakjnaaGreat.Clep
open Go.RowKit
set_option linter.unusedVariables false

set_option maxRecDepth 100000 in
set_option maxHeartbeats 8000000 in
theorem hostile_walk (a0 a1 a5 : Option Addr) (len0 cap0 len1 cap1 len5 cap5 : Nat) (bs0 ts : List Int) (l : List It) (at9 by9 cut9 : Int) (w : World) (h0 : Bs w a0 len0 cap0 bs0 ∧ len0 ≤ 9223372036854775807) (h1 : Is w a1 len1 cap1 l) (hl1 : len1 ≤ 9223372036854775807) (hc1 : cap1 ≤ 9223372036854775807) (h5 : Bs w a5 len5 cap5 ts ∧ len5 ≤ 9223372036854775807) (hby : 0 ≤ by9 ∧ by9 < 256) :
    Calls Tryz.prog 5 #[.slice a0 len0 cap0, .slice a1 len1 cap1, .int .i64 at9, .int .u8 by9, .int .i64 cut9, .slice a5 len5 cap5] w fun e w' => e = .returned (.bool true) ∧ Below w.heap.size w w' := by
  have hm0 := h0.2
  have hm5 := h5.2
  by_cases hsm : 3000 < len0 ∨ 100 < len1 ∨ 100 < len5
  · have hcase : 3000 < len0 ∨ (len0 ≤ 3000 ∧ 100 < len1) ∨ (len0 ≤ 3000 ∧ len1 ≤ 100 ∧ 100 < len5) := by omega
    clear h0 h1 h5 hsm
    rcases hcase with hq | ⟨hq, hq2⟩ | ⟨hq, hq2, hq3⟩
    all_goals
      go_enter Tryz.func5, Tryz.ntmps5
      go_wp2_with (first | (go_at_call 9; refine (qawake_any _).mono ?_; rintro e w9 ⟨rfl, hb9⟩))
      go_ret
      exact ⟨rfl, hb9⟩
  have hq1 : len0 ≤ 3000 := by omega
  have hq2 : len1 ≤ 100 := by omega
  have hq3 : len5 ≤ 100 := by omega
  clear hsm
  have hll := h1.1
  have hRi := hide (rising_any a1 len1 cap1 l w h1 (by omega) hc1)
  have HT := hide (tok_q h1.2.2.1 (by omega))
  have H0 := hide (fun W (hW : Below w.heap.size w W) => h0.1.below hW (Nat.le_refl _))
  have H5 := hide (fun W (hW : Below w.heap.size w W) => h5.1.below hW (Nat.le_refl _))
  generalize qL l = m at *
  clear h0 h1 h5
  go_enter Tryz.func5, Tryz.ntmps5
  go_wp2_with fail
  refine hRi.out.mono ?_
  rintro e w1 ⟨aq, cq, rfl, hIq, hcq, hb1, -⟩
  have hTb := hide (reftab_any aq m.length cq m w1 hIq HT.out hcq)
  have B1 := hide hb1
  have HRG := hide (tb_range HT.out)
  have hLb := tb_len HT.out
  have HTT := hide (isT_tb HT.out)
  obtain ⟨s0, hs0⟩ : ∃ s0, tb m = s0 := ⟨_, rfl⟩
  rw [hs0] at hTb HRG hLb HTT
  obtain ⟨L, hL⟩ : ∃ L, s0.length = L := ⟨_, rfl⟩
  have HL := hide hL
  rw [hL] at hLb
  obtain ⟨hL1, hL2⟩ := hLb
  generalize m.length = nq at *
  obtain ⟨P, hP0, hQ0⟩ := place_of at9 16777215 (by omega) (L : Int) L rfl (by omega)
  have hP1 : (bits BinOp.and IntKind.i64 at9 16777215).tmod (L : Int) = (P : Int) := hP0
  have hand := and_mask at9 16777215 (by omega)
  have hP2 : (bits BinOp.and IntKind.i64 at9 16777215) % (L : Int) = (P : Int) := by
    have hh := hP1
    rw [Int.tmod_eq_emod_of_nonneg (show 0 ≤ bits BinOp.and IntKind.i64 at9 16777215 from hand.1)] at hh
    exact hh
  obtain ⟨Y, hY0, hY9⟩ := place_of cut9 65535 (by omega) ((L : Int) + 1) (L + 1) (by omega) (by omega)
  have hY1 : (bits BinOp.and IntKind.i64 cut9 65535).tmod ((L : Int) + 1) = (Y : Int) := hY0
  have hand2 := and_mask cut9 65535 (by omega)
  have hY2 : (bits BinOp.and IntKind.i64 cut9 65535) % ((L : Int) + 1) = (Y : Int) := by
    have hh := hY1
    rw [Int.tmod_eq_emod_of_nonneg (show 0 ≤ bits BinOp.and IntKind.i64 cut9 65535 from hand2.1)] at hh
    exact hh
  clear hRi hIq hb1 hs0 hL hP0 hand hY0 hand2
  go_wp2_with fail
  refine hTb.out.mono ?_
  rintro e w3 ⟨rfl, hb3⟩
  obtain ⟨cap, w4, hrun, hcap, hb4, hrm⟩ := rm_str w3 s0 HRG.out (by rw [HL.out]; unfold maxLen; omega)
  rw [HL.out] at hrun hcap
  have B3 := hide (bmore B1.out hb3)
  have B4 := hide (bmore B3.out hb4.out)
  obtain ⟨g, hg⟩ : ∃ g, w3.heap.size = g := ⟨_, rfl⟩
  rw [hg] at hrun hrm
  have HGW : Hid (w.heap.size ≤ g) := hide (by rw [← hg]; exact B3.out.size)
  have hPi : (P : Int) < (L : Int) := by omega
  have cP := hrm.out.cell P (by rw [HL.out]; exact hQ0)
  have fP := hrm.out.free P (by omega)
  have hxr := xor_range (s0.getD P 0) by9
  have RM := hide (hrm.out.set P (by rw [HL.out]; exact hQ0) _ hxr)
  have B5 := hide (B4.out.trans ((Ch.set (P := fun b => b = g) w4 ⟨g, P, none⟩ (.int .u8 (bits BinOp.xor IntKind.u8 (s0.getD P 0) by9)) rfl).below B4.out.size fun j e => by rw [e]; exact HGW.out))
  have hl5 : Hid ((s0.set P (bits BinOp.xor IntKind.u8 (s0.getD P 0) by9)).length = L) := hide (by rw [List.length_set]; exact HL.out)
  generalize s0.set P (bits BinOp.xor IntKind.u8 (s0.getD P 0) by9) = ds at *
  obtain ⟨nc, hnc⟩ : ∃ nc : Nat, L - Y = nc := ⟨_, rfl⟩
  have hnci : (L : Int) - (Y : Int) = (nc : Int) := by omega
  have hnL : nc ≤ L := by omega
  have hsl : ∀ W : World, (Instr.sliceAt 28 (.slice (some ⟨g, 0, none⟩) L cap) none (some (.int .i64 (nc : Int))) none).run Tryz.prog W = .ok (.slice (some ⟨g, 0, none⟩) nc cap) W := fun W => by
    have := cut_h W (some ⟨g, 0, none⟩) L cap .i64 (nc : Int) (by omega) (by omega)
    rw [this]
    have e1 : (nc : Int).toNat = nc := by omega
    have e2 : cut (some ⟨g, 0, none⟩) cap 0 = some ⟨g, 0, none⟩ := by unfold cut; split <;> simp [add_plain]
    rw [e1, e2]
  generalize s0.getD P 0 = z0 at *
  obtain ⟨SS, hSS⟩ : ∃ SS, strOfNums s0 = SS := ⟨_, rfl⟩
  rw [hSS] at hrun ⊢
  have HSS := hide hSS
  clear hTb hb3 hb4 hrm hg hxr hSS B3 B4 hnc
  go_wp2_with (first
    | (at_builtin; refine wpList_app_cut rfl _ _ rfl w.heap.size g nc cap ds rfl RM.out ?c1 HGW.out ?c2 a5 len5 cap5 ts rfl ?c3 ?c4 ?_)
    | fail)
  case c1 => rw [hl5.out]; exact hnL
  case c2 => exact B5.out.size
  case c3 => exact H5.out _ B5.out
  case c4 => omega
  intro ac cc w5 g1 g2
  have S6 := hide g1
  have B6 := hide (B5.out.trans g2)
  have hlc : nc + len5 ≤ 100000 := by omega
  generalize ds.take nc ++ ts = es at *
  generalize nc + len5 = lc at *
  have A6 := hide (H0.out _ B6.out)
  clear g1 g2 B5 hsl RM hrun cP fP hl5 H0 H5 hP1 hP2 hY1 hY2 hnci hPi
  go_wp2_with fail
  go_loopw [0, 15] (fun b u wr => ∃ (i : Nat) (ab : Option Addr) (lb cb : Nat) (zs : List Int), u = .int .i64 i ∧ i ≤ 2 ∧ b = .slice ab lb cb ∧ lb ≤ 100000 ∧ Hid (Bs w5 ab lb cb zs) ∧ Hid (Below w5.heap.size w5 wr)) (fun _ u _ => 2 - (intOf u).toNat)
  case atStart => exact ⟨0, a0, len0, cap0, bs0, rfl, by omega, rfl, by omega, A6, hide (Below.refl _ _)⟩
  case round =>
    obtain ⟨i, ab, lb, cb, zs, rfl, hi, rfl, hlb, hSb, hBr⟩ := hrel
    by_cases h2 : i < 2
    · by_cases h1 : i = 1
      · subst h1
        have hSx := hide (S6.out.below hBr.out (Nat.le_refl _))
        have hrg := hide (bs_range S6.out)
        have hRd := tread_any ac lc cc es wr hSx.out (by omega)
        have hse := str_eq es s0 hrg.out HRG.out
        rw [HSS.out] at hse
        obtain ⟨SX, hSX⟩ : ∃ SX, strOfNums es = SX := ⟨_, rfl⟩
        rw [hSX] at hse
        have HSX := hide hSX
        clear hSX h2
        cases hT : isT es with
        | false =>
          rw [hT] at hRd
          have HRd := hide hRd
          have hne : decide (es = s0) = false := by
            refine decide_eq_false fun e => ?_
            rw [e, HTT.out] at hT; cases hT
          rw [hne] at hse
          clear hRd hT hne
          go_wp2_with fail
          refine HRd.out.mono ?_
          rintro e w6 ⟨hb6, ⟨-, rfl⟩ | ⟨h9, -⟩⟩
          case inr => cases h9
          have hcv := conv_bs (hSx.out.below hb6 (Nat.le_refl _))
          rw [HSX.out] at hcv
          have B7 := hide (hBr.out.trans (hb6.mono hBr.out.size))
          clear HRd hb6
          go_wp2_with fail
          have hne : Nonempty (Kp w6) := ⟨⟨_, Below.refl _ _⟩⟩
          refine wp_region_kept (by kernel_rfl) (by kernel_rfl) ?_
          repeat (first | go_big_quiet_step (fail) | fail)
          refine wpQuiet_nil ?_
          intro w7 hw'
          have B8 : Hid (Below w5.heap.size w5 w7) := by
            obtain ⟨⟨w7', hb7⟩, hw''⟩ := hw'
            rw [hw'']; exact hide (B7.out.trans (hb7.mono B7.out.size))
          clear hw' hne
          go_wp2
          go_roundw
          case rel => exact ⟨2, ac, lc, cc, es, by go_num, by omega, rfl, by omega, S6, B8⟩
          case measure => simp [intOf]
        | true =>
          rw [hT] at hRd
          have HRd := hide hRd
          have HTX := hide (isT_ok hrg.out hT)
          have HXE := hide (isT_iff.1 hT).2
          clear hRd hT
          go_wp2_with fail
          refine HRd.out.mono ?_
          rintro e w6 ⟨hb6, ⟨h9, -⟩ | ⟨-, M, rfl, ht6, hM6⟩⟩
          · cases h9
          have hcv := conv_bs (hSx.out.below hb6 (Nat.le_refl _))
          rw [HSX.out] at hcv
          have B7 := hide (hBr.out.trans (hb6.mono hBr.out.size))
          have HT6 := hide ht6
          have HCV : Hid (∀ W, Ch (fun b => b = M) w6 W → (Ch (fun b => b = M) w6 W ∧ (convert 28 9 (.slice ac lc cc)).run Tryz.prog W = .ok (.string SX) W)) := hide (fun W hW => ⟨hW, by
            have := conv_bs ((hSx.out.below hb6 (Nat.le_refl _)).ch hW (fun h0 x hx e => by have := blk_bs_lt hSx.out h0 x hx; omega))
            rw [HSX.out] at this; exact this⟩)
          have HMW : Hid (w5.heap.size ≤ M) := hide (Nat.le_trans hBr.out.size hM6)
          obtain ⟨m9, hm9⟩ : ∃ m9, bg es = m9 := ⟨_, rfl⟩
          rw [hm9] at HT6 HTX HXE
          have cA : Hid (∀ W, Below w6.heap.size w6 W → Calls Tryz.prog 17 #[.pointer (some ⟨M, 0, none⟩)] W fun e w' => ∃ a9 n9 c9, e = .returned (.slice a9 n9 c9) ∧ Ch (fun b => b = M) w6 w' ∧ Hid (Is w' a9 n9 c9 m9 ∧ c9 ≤ 9223372036854775807)) := hide (fun W hW => (tall_any W M 0 _ m9 (HT6.out.keep hW)).mono fun e w' ⟨a9, c9, q1, q2, q3, q4, q5⟩ => ⟨a9, _, c9, q1, (Ch.of hW).trans q5, hide ⟨q2, q3⟩⟩)
          have cT : Hid (∀ W a9 n9 c9, Ch (fun b => b = M) w6 W → Hid (Is W a9 n9 c9 m9 ∧ c9 ≤ 9223372036854775807) → Calls Tryz.prog 13 #[.slice a9 n9 c9] W fun e w' => e = .returned (.string SX) ∧ Ch (fun b => b = M) w6 w') := hide (fun W a9 n9 c9 hW hI => (reftab_any a9 n9 c9 m9 W hI.out.1 HTX.out hI.out.2).mono fun e w' ⟨q1, q2⟩ => ⟨by rw [q1, ← HXE.out, HSX.out], hW.trans (Ch.of q2)⟩)
          have hb0 : Below w6.heap.size w6 w6 := Below.refl _ _
          have hb1 : Below w6.heap.size w6 w6.drew := (Below.refl _ _).drew
          have hk0 : Ch (fun b => b = M) w6 w6 := Ch.of hb0
          have hk1 : Ch (fun b => b = M) w6 w6.drew := Ch.of hb1
          have hss : (SX.toList == SX.toList) = true := by simp
          clear HRd hb6 ht6 hM6 hm9
          by_cases heq : es = s0
          · rw [decide_eq_true heq] at hse
            clear heq
            go_wp2_with fail
            go_region_held_law (fun W => Ch (fun b => b = M) w6 W ∧ (convert 28 9 (.slice ac lc cc)).run Tryz.prog W = .ok (.string SX) W)
              (first | exact HCV.out _ (by with_reducible assumption) | exact HCV.out _ hk1 | exact HCV.out _ hk0)
              (first
              | (go_at_call 17; refine (cA.out _ (by with_reducible assumption)).mono ?_; rintro e w' ⟨a9, n9, c9, rfl, hc9, hI9⟩)
              | (go_at_call 13; refine (cT.out _ _ _ _ (And.left (by with_reducible assumption)) (by with_reducible assumption)).mono ?_; rintro e w'' ⟨rfl, hc10⟩))
            all_goals
              have B8 : Hid (Below w5.heap.size w5 w'') := hide (Clep.Below.ch B7.out hc10 B7.out.size (fun i hi => by rw [hi]; exact HMW.out))
              rename_i hX
              clear hX hc10 hc9 hI9 cA cT HCV hb0 hb1 hk0 hk1
              go_wp2
              go_roundw
              case rel => exact ⟨2, ac, lc, cc, es, by go_num, by omega, rfl, by omega, S6, B8⟩
              case measure => simp [intOf]
          · rw [decide_eq_false heq] at hse
            clear heq
            go_wp2_with fail
            go_region_held_law (fun W => Ch (fun b => b = M) w6 W ∧ (convert 28 9 (.slice ac lc cc)).run Tryz.prog W = .ok (.string SX) W)
              (first | exact HCV.out _ (by with_reducible assumption) | exact HCV.out _ hk1 | exact HCV.out _ hk0)
              (first
              | (go_at_call 17; refine (cA.out _ (by with_reducible assumption)).mono ?_; rintro e w' ⟨a9, n9, c9, rfl, hc9, hI9⟩)
              | (go_at_call 13; refine (cT.out _ _ _ _ (And.left (by with_reducible assumption)) (by with_reducible assumption)).mono ?_; rintro e w'' ⟨rfl, hc10⟩))
            all_goals
              have B8 : Hid (Below w5.heap.size w5 w'') := hide (Clep.Below.ch B7.out hc10 B7.out.size (fun i hi => by rw [hi]; exact HMW.out))
              rename_i hX
              clear hX hc10 hc9 hI9 cA cT HCV hb0 hb1 hk0 hk1
              go_wp2
              go_roundw
              case rel => exact ⟨2, ac, lc, cc, es, by go_num, by omega, rfl, by omega, S6, B8⟩
              case measure => simp [intOf]
      · obtain rfl : i = 0 := by omega
        have hSx := hide (hSb.out.below hBr.out (Nat.le_refl _))
        have hrg := hide (bs_range hSb.out)
        have hRd := tread_any ab lb cb zs wr hSx.out (by omega)
        have hse := str_eq zs s0 hrg.out HRG.out
        rw [HSS.out] at hse
        obtain ⟨SX, hSX⟩ : ∃ SX, strOfNums zs = SX := ⟨_, rfl⟩
        rw [hSX] at hse
        have HSX := hide hSX
        clear hSX h2
        cases hT : isT zs with
        | false =>
          rw [hT] at hRd
          have HRd := hide hRd
          have hne : decide (zs = s0) = false := by
            refine decide_eq_false fun e => ?_
            rw [e, HTT.out] at hT; cases hT
          rw [hne] at hse
          clear hRd hT hne
          go_wp2_with fail
          refine HRd.out.mono ?_
          rintro e w6 ⟨hb6, ⟨-, rfl⟩ | ⟨h9, -⟩⟩
          case inr => cases h9
          have hcv := conv_bs (hSx.out.below hb6 (Nat.le_refl _))
          rw [HSX.out] at hcv
          have B7 := hide (hBr.out.trans (hb6.mono hBr.out.size))
          clear HRd hb6
          go_wp2_with fail
          have hne : Nonempty (Kp w6) := ⟨⟨_, Below.refl _ _⟩⟩
          refine wp_region_kept (by kernel_rfl) (by kernel_rfl) ?_
          repeat (first | go_big_quiet_step (fail) | fail)
          refine wpQuiet_nil ?_
          intro w7 hw'
          have B8 : Hid (Below w5.heap.size w5 w7) := by
            obtain ⟨⟨w7', hb7⟩, hw''⟩ := hw'
            rw [hw'']; exact hide (B7.out.trans (hb7.mono B7.out.size))
          clear hw' hne
          go_wp2
          go_roundw
          case rel => exact ⟨1, ab, lb, cb, zs, by go_num, by omega, rfl, by omega, hSb, B8⟩
          case measure => simp [intOf]
        | true =>
          rw [hT] at hRd
          have HRd := hide hRd
          have HTX := hide (isT_ok hrg.out hT)
          have HXE := hide (isT_iff.1 hT).2
          clear hRd hT
          go_wp2_with fail
          refine HRd.out.mono ?_
          rintro e w6 ⟨hb6, ⟨h9, -⟩ | ⟨-, M, rfl, ht6, hM6⟩⟩
          · cases h9
          have hcv := conv_bs (hSx.out.below hb6 (Nat.le_refl _))
          rw [HSX.out] at hcv
          have B7 := hide (hBr.out.trans (hb6.mono hBr.out.size))
          have HT6 := hide ht6
          have HCV : Hid (∀ W, Ch (fun b => b = M) w6 W → (Ch (fun b => b = M) w6 W ∧ (convert 28 9 (.slice ab lb cb)).run Tryz.prog W = .ok (.string SX) W)) := hide (fun W hW => ⟨hW, by
            have := conv_bs ((hSx.out.below hb6 (Nat.le_refl _)).ch hW (fun h0 x hx e => by have := blk_bs_lt hSx.out h0 x hx; omega))
            rw [HSX.out] at this; exact this⟩)
          have HMW : Hid (w5.heap.size ≤ M) := hide (Nat.le_trans hBr.out.size hM6)
          obtain ⟨m9, hm9⟩ : ∃ m9, bg zs = m9 := ⟨_, rfl⟩
          rw [hm9] at HT6 HTX HXE
          have cA : Hid (∀ W, Below w6.heap.size w6 W → Calls Tryz.prog 17 #[.pointer (some ⟨M, 0, none⟩)] W fun e w' => ∃ a9 n9 c9, e = .returned (.slice a9 n9 c9) ∧ Ch (fun b => b = M) w6 w' ∧ Hid (Is w' a9 n9 c9 m9 ∧ c9 ≤ 9223372036854775807)) := hide (fun W hW => (tall_any W M 0 _ m9 (HT6.out.keep hW)).mono fun e w' ⟨a9, c9, q1, q2, q3, q4, q5⟩ => ⟨a9, _, c9, q1, (Ch.of hW).trans q5, hide ⟨q2, q3⟩⟩)
          have cT : Hid (∀ W a9 n9 c9, Ch (fun b => b = M) w6 W → Hid (Is W a9 n9 c9 m9 ∧ c9 ≤ 9223372036854775807) → Calls Tryz.prog 13 #[.slice a9 n9 c9] W fun e w' => e = .returned (.string SX) ∧ Ch (fun b => b = M) w6 w') := hide (fun W a9 n9 c9 hW hI => (reftab_any a9 n9 c9 m9 W hI.out.1 HTX.out hI.out.2).mono fun e w' ⟨q1, q2⟩ => ⟨by rw [q1, ← HXE.out, HSX.out], hW.trans (Ch.of q2)⟩)
          have hb0 : Below w6.heap.size w6 w6 := Below.refl _ _
          have hb1 : Below w6.heap.size w6 w6.drew := (Below.refl _ _).drew
          have hk0 : Ch (fun b => b = M) w6 w6 := Ch.of hb0
          have hk1 : Ch (fun b => b = M) w6 w6.drew := Ch.of hb1
          have hss : (SX.toList == SX.toList) = true := by simp
          clear HRd hb6 ht6 hM6 hm9
          by_cases heq : zs = s0
          · rw [decide_eq_true heq] at hse
            clear heq
            go_wp2_with fail
            go_region_held_law (fun W => Ch (fun b => b = M) w6 W ∧ (convert 28 9 (.slice ab lb cb)).run Tryz.prog W = .ok (.string SX) W)
              (first | exact HCV.out _ (by with_reducible assumption) | exact HCV.out _ hk1 | exact HCV.out _ hk0)
              (first
              | (go_at_call 17; refine (cA.out _ (by with_reducible assumption)).mono ?_; rintro e w' ⟨a9, n9, c9, rfl, hc9, hI9⟩)
              | (go_at_call 13; refine (cT.out _ _ _ _ (And.left (by with_reducible assumption)) (by with_reducible assumption)).mono ?_; rintro e w'' ⟨rfl, hc10⟩))
            all_goals
              have B8 : Hid (Below w5.heap.size w5 w'') := hide (Clep.Below.ch B7.out hc10 B7.out.size (fun i hi => by rw [hi]; exact HMW.out))
              rename_i hX
              clear hX hc10 hc9 hI9 cA cT HCV hb0 hb1 hk0 hk1
              go_wp2
              go_roundw
              case rel => exact ⟨1, ab, lb, cb, zs, by go_num, by omega, rfl, by omega, hSb, B8⟩
              case measure => simp [intOf]
          · rw [decide_eq_false heq] at hse
            clear heq
            go_wp2_with fail
            go_region_held_law (fun W => Ch (fun b => b = M) w6 W ∧ (convert 28 9 (.slice ab lb cb)).run Tryz.prog W = .ok (.string SX) W)
              (first | exact HCV.out _ (by with_reducible assumption) | exact HCV.out _ hk1 | exact HCV.out _ hk0)
              (first
              | (go_at_call 17; refine (cA.out _ (by with_reducible assumption)).mono ?_; rintro e w' ⟨a9, n9, c9, rfl, hc9, hI9⟩)
              | (go_at_call 13; refine (cT.out _ _ _ _ (And.left (by with_reducible assumption)) (by with_reducible assumption)).mono ?_; rintro e w'' ⟨rfl, hc10⟩))
            all_goals
              have B8 : Hid (Below w5.heap.size w5 w'') := hide (Clep.Below.ch B7.out hc10 B7.out.size (fun i hi => by rw [hi]; exact HMW.out))
              rename_i hX
              clear hX hc10 hc9 hI9 cA cT HCV hb0 hb1 hk0 hk1
              go_wp2
              go_roundw
              case rel => exact ⟨1, ab, lb, cb, zs, by go_num, by omega, rfl, by omega, hSb, B8⟩
              case measure => simp [intOf]
    · obtain rfl : i = 2 := by omega
      go_wp2_with (first | (go_at_call 9; refine (qawake_any _).mono ?_; rintro e w9 ⟨rfl, hb9⟩))
      go_ret
      exact ⟨rfl, bmore (B6.out.trans (hBr.out.mono B6.out.size)) hb9⟩

end Go.Proofs.YtodhljiboakjnaaGreat.Clep
