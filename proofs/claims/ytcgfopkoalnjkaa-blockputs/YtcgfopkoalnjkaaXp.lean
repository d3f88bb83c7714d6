/- What the statement BlockPuts does when called: true. Conditions: none but what a call brings. -/
import Derived.Test.YtcgfopkoalnjkaaZx
import Derived.Test.YtcgfopkoalnjkaaXa
import Derived.Test.YtcgfopkoalnjkaaZo
namespace Go.Proofs.Ytcgfopkoalnjkaa.Clep
open Go.RowKit
set_option linter.unusedVariables false

theorem puts_long (a0 a1 : Option Addr) (len0 cap0 len1 cap1 : Nat) (at9 : Int) (w : World) (m0 : len0 ≤ 9223372036854775807) (m1 : len1 ≤ 9223372036854775807) (h : 2000 < len0 ∨ 150 < len1) :
    Calls Try.prog 3 #[.slice a0 len0 cap0, .slice a1 len1 cap1, .int .i64 at9] w fun e w' => e = .returned (.bool true) ∧ Below w.heap.size w w' := by
  by_cases h1 : 2000 < len0
  · go_enter Try.func3, Try.ntmps3
    go_wp2_with (first | (go_at_call 8; refine (awake_any w).mono ?_; rintro e w1 ⟨rfl, hb⟩))
    go_ret
    exact ⟨rfl, hb⟩
  · have h2 : 150 < len1 := by omega
    go_enter Try.func3, Try.ntmps3
    go_wp2_with (first | (go_at_call 8; refine (awake_any w).mono ?_; rintro e w1 ⟨rfl, hb⟩))
    go_ret
    exact ⟨rfl, hb⟩

set_option maxRecDepth 100000 in
set_option maxHeartbeats 8000000 in
theorem puts_go (a0 a1 : Option Addr) (len0 cap0 len1 cap1 : Nat) (zs : List Int) (l : List It) (at9 : Int) (w : World) (h0 : Bs w a0 len0 cap0 zs) (h1 : Is w a1 len1 cap1 l) (hc1 : cap1 ≤ 9223372036854775807) (m0 : len0 ≤ 2000) (m1 : len1 ≤ 150) :
    Calls Try.prog 3 #[.slice a0 len0 cap0, .slice a1 len1 cap1, .int .i64 at9] w fun e w' => e = .returned (.bool true) ∧ Below w.heap.size w w' := by
  have hz0 := hide h0.1
  have ByteL0 := hide (bs_range h0)
  have hll := h1.1
  have hone := hide (lone_any a1 len1 cap1 l w h1 (by omega) hc1)
  have H0w := hide (fun W (hW : Below w.heap.size w W) => h0.below hW (Nat.le_refl _))
  have H1w := hide (fun W (hW : Below w.heap.size w W) => h1.below hW (Nat.le_refl _))
  have hql : (qL l).length ≤ 150 := by have := qL_len l; omega
  have HLL := hide (show l.length ≤ 3518437208880 by omega)
  clear h0 h1 hll
  go_enter Try.func3, Try.ntmps3
  go_wp2_with fail
  refine hone.out.mono ?_
  rintro e w1 ⟨v1, rfl, hb1, zz, ho1, hz1, hm1⟩
  have hq := hide (q_any v1 zz l w.heap.size w1 hb1.size ho1 (fun z hz => ⟨(hz1 z hz).1.below hb1 (Nat.le_refl _), (hz1 z hz).2⟩) hm1 HLL.out)
  have B1 := hide hb1
  clear hone ho1 hz1 hm1 hb1
  go_wp2_with fail
  refine hq.out.mono ?_
  rintro e w2 ⟨aq, cq, rfl, hIq, hcq, hb2, -⟩
  have B2 := hide (bmore B1.out hb2)
  have H0 := hide (fun W (hW : Below w2.heap.size w2 W) => H0w.out W (bmore B2.out hW))
  have HI0 := hide (fun W (hW : Below w2.heap.size w2 W) => H1w.out W (bmore B2.out hW))
  have HI1 := hide (fun W (hW : Below w2.heap.size w2 W) => hIq.below hW (Nat.le_refl _))
  clear hq hb2 hIq B1 H0w H1w HLL
  generalize hmq : qL l = m at *
  generalize hmn : m.length = nq at *
  clear hmq hmn
  go_wp2_with fail
  go_loopw [8] (fun i wr => ∃ k : Nat, k ≤ 2 ∧ i = .int .i64 k ∧ Hid (Below w2.heap.size w2 wr)) (fun i _ => 2 - (intOf i).toNat)
  case atStart => exact ⟨0, by omega, rfl, hide (Below.refl _ _)⟩
  case round =>
    obtain ⟨k, hk, rfl, hB⟩ := hrel
    have hkc : k = 0 ∨ k = 1 ∨ k = 2 := by omega
    rcases hkc with rfl | rfl | rfl
    · have hI := HI0.out wr hB.out
      have hBs := H0.out wr hB.out
      have hwf := hide hI.2.2.1
      have hP := hide (bput_any a0 a1 len0 cap0 len1 cap1 zs l wr (by omega) (by omega) hBs hI)
      have hM := hide (fun W (hW : Below wr.heap.size wr W) => blockmay_any a1 len1 cap1 l W (hI.below hW (Nat.le_refl _)) (by omega))
      have HIS := hide (fun W (hW : Below wr.heap.size wr W) => hI.below hW (Nat.le_refl _))
      have HBS := hide (fun W (hW : Below wr.heap.size wr W) => hBs.below hW (Nat.le_refl _))
      clear hI hBs
      by_cases hE : bme l = 0
      · have hfk := bme_zero hE
        have hbk := isB_bkb l [] hwf.out hfk.1 hfk.2
        rw [List.append_nil] at hbk
        have hml : l.length ≤ 100 := (fit_iff.1 hfk.1).2.1
        have hfew := (ibn_few l hml).2
        have hbl := bkb_len l
        have hNl : len1 ≤ 100 := by have := (HIS.out wr (Below.refl _ _)).1; omega
        have hbr := bkb_range l hwf.out hml
        have hcr := hide (cat_range (ByteL0.out) hbr)
        have HBK1 := hide hbk.1
        have HBK2 := hide hbk.2.1
        have hln := hbk.2.2
        rw [hE] at hM
        obtain ⟨L, hL⟩ : ∃ L, (zs ++ bkb l).length = L := ⟨_, rfl⟩
        have HL := hide hL
        have hnx : Hid ((len0 : Int) + 12 + ln (bkb l) = (L : Int)) := hide (by rw [hln]; rw [List.length_append, hz0.out, hbl] at hL; omega)
        have hLm : L ≤ 6000 ∧ len0 ≤ L := by rw [List.length_append, hz0.out, hbl] at hL; omega
        have hdr : Hid (bkb l = (zs ++ bkb l).drop len0) := hide (drop_app zs (bkb l) len0 hz0.out).symm
        have HE := hide hE
        clear hbk hln hbl hfew hL hfk hE hbr
        go_wp2_with fail
        refine hP.out.mono ?_
        rintro e w3 ⟨hb3, ⟨h9, -⟩ | ⟨-, v, rfl, ho⟩⟩
        · exact absurd HE.out h9
        obtain ⟨ax, cx, rfl, hcx, hbs, -⟩ := own_bs ho (range_of hcr.out)
        rw [HL.out] at hbs ⊢
        have HX := hide hbs
        have hm4 := hide (hM.out w3 hb3)
        clear ho hbs hP hM
        go_wp2_with fail
        refine hm4.out.mono ?_
        rintro e w4 ⟨rfl, hb4⟩
        have B4 := hide (bmore hb3 hb4)
        have hT := btake_any ax L cx (zs ++ bkb l) len0 w4 (by omega) (HX.out.below hb4 (Nat.le_refl _)) hLm.2 (bkb l) hdr.out
        rw [hnx.out] at hT
        have HT := hide hT
        have HX4 := hide (HX.out.below hb4 (Nat.le_refl _))
        clear hT hb3 hb4 hm4 HX
        go_wp2_with fail
        refine HT.out.mono ?_
        rintro e w5 ⟨hb5, ⟨h9, -⟩ | ⟨-, v, rfl, ho⟩⟩
        · rw [HBK1.out] at h9; cases h9
        rw [HBK2.out] at ho
        obtain ⟨ay, cy, rfl, hcy, hIy, -⟩ := ownI_is ho hwf.out
        have B5 := hide (bmore B4.out hb5)
        have hlen : l.length = len1 := (HIS.out wr (Below.refl _ _)).1
        rw [hlen] at hIy ⊢
        have p0 : ∀ p : Kp w5, (convert 22 9 (.slice ax L cx)).run Try.prog p.W = .ok (.string (strOfNums (zs ++ bkb l))) p.W := fun p => conv_bs (HX4.out.below (bmore hb5 p.h) (Nat.le_refl _))
        have q0 : ∀ p : Kp w5, (convert 22 9 (.slice a0 len0 cap0)).run Try.prog p.W = .ok (.string (strOfNums zs)) p.W := fun p => conv_bs (HBS.out _ (bmore B5.out p.h))
        have cB : Hid (∀ p : Kp w5, Calls Try.prog 14 #[.slice a1 len1 cap1] p.W fun e w'' => e = .returned (.string (strOfNums (bkb l))) ∧ ∃ q : Kp w5, w'' = q.W) := hide fun p => kp_call (block_any a1 len1 cap1 l _ (HIS.out _ (bmore B5.out p.h)) hNl)
        have cE : Hid (∀ p : Kp w5, Calls Try.prog 15 #[.slice ay len1 cy, .slice a1 len1 cap1] p.W fun e w'' => e = .returned (.bool true) ∧ ∃ q : Kp w5, w'' = q.W) := hide fun p => kp_call (equal_same ay a1 len1 cy cap1 l _ (by omega) (hIy.below p.h (Nat.le_refl _)) (HIS.out _ (bmore B5.out p.h)))
        have z1 : (strOfNums (zs ++ bkb l)).size = L := by rw [str_size, HL.out]
        have z2 : (strOfNums zs).size = len0 := by rw [str_size, hz0.out]
        obtain ⟨LK, z3⟩ : ∃ LK, (strOfNums (bkb l)).size = LK := ⟨_, rfl⟩
        have z4 : LK ≤ 6000 := by rw [← z3, str_size]; have := HL.out; rw [List.length_append] at this; omega
        have hadd : ∀ W, (Op.stringOp .add (strOfNums zs) (strOfNums (bkb l))).run Try.prog W = .ok (.string (strOfNums (zs ++ bkb l))) W := fun W => by
          rw [← str_app]
          exact run_string_add_sum W _ _ (by rw [z2, z3]; omega)
        have hne : Nonempty (Kp w5) := ⟨⟨w5, Below.refl _ _⟩⟩
        generalize strOfNums (zs ++ bkb l) = SX at *
        generalize strOfNums (bkb l) = SK at *
        generalize strOfNums zs = SB at *
        clear ho hIy HT HX4 hb5 hdr hnx HBK1 HBK2 hcr
        go_wp2_with fail
        refine wp_region_kept (by kernel_rfl) (by kernel_rfl) ?_
        repeat (first
          | go_big_quiet_step (first | (go_at_call 14; exact cB.out _) | (go_at_call 15; exact cE.out _))
          | fail)
        refine wpQuiet_nil ?_
        intro w6 hw'
        have HB6 : Hid (Below wr.heap.size wr w6) := by
          obtain ⟨⟨w3', hb3⟩, hw''⟩ := hw'
          rw [hw'']; exact hide (bmore B5.out hb3)
        clear hw' hne cB cE p0 q0
        go_wp2
        go_roundw
        case rel => exact ⟨0 + 1, by omega, by go_num, hide (bmore hB.out HB6.out)⟩
        case measure => simp [intOf]
      · have hE1 : (bme l != bme l) = false := by simp
        have hE2 : (bme l != 0) = true := by simp [hE]
        have HE := hide hE
        generalize bme l = E at *
        clear hE
        go_wp2_with fail
        refine hP.out.mono ?_
        rintro e w3 ⟨hb3, ⟨-, rfl⟩ | ⟨h9, -⟩⟩
        case inr => exact absurd h9 HE.out
        have hm4 := hide (hM.out w3 hb3)
        clear hP hM
        go_wp2_with fail
        refine hm4.out.mono ?_
        rintro e w4 ⟨rfl, hb4⟩
        have B4 := hide (bmore hb3 hb4)
        clear hb3 hb4 hm4
        go_wp2
        go_roundw
        case rel => exact ⟨0 + 1, by omega, by go_num, hide (bmore hB.out B4.out)⟩
        case measure => simp [intOf]
    · have hI := HI1.out wr hB.out
      have hBs := H0.out wr hB.out
      have hwf := hide hI.2.2.1
      have hP := hide (bput_any a0 aq len0 cap0 nq cq zs m wr (by omega) (by omega) hBs hI)
      have hM := hide (fun W (hW : Below wr.heap.size wr W) => blockmay_any aq nq cq m W (hI.below hW (Nat.le_refl _)) (by omega))
      have HIS := hide (fun W (hW : Below wr.heap.size wr W) => hI.below hW (Nat.le_refl _))
      have HBS := hide (fun W (hW : Below wr.heap.size wr W) => hBs.below hW (Nat.le_refl _))
      clear hI hBs
      by_cases hE : bme m = 0
      · have hfk := bme_zero hE
        have hbk := isB_bkb m [] hwf.out hfk.1 hfk.2
        rw [List.append_nil] at hbk
        have hml : m.length ≤ 100 := (fit_iff.1 hfk.1).2.1
        have hfew := (ibn_few m hml).2
        have hbl := bkb_len m
        have hNl : nq ≤ 100 := by have := (HIS.out wr (Below.refl _ _)).1; omega
        have hbr := bkb_range m hwf.out hml
        have hcr := hide (cat_range (ByteL0.out) hbr)
        have HBK1 := hide hbk.1
        have HBK2 := hide hbk.2.1
        have hln := hbk.2.2
        rw [hE] at hM
        obtain ⟨L, hL⟩ : ∃ L, (zs ++ bkb m).length = L := ⟨_, rfl⟩
        have HL := hide hL
        have hnx : Hid ((len0 : Int) + 12 + ln (bkb m) = (L : Int)) := hide (by rw [hln]; rw [List.length_append, hz0.out, hbl] at hL; omega)
        have hLm : L ≤ 6000 ∧ len0 ≤ L := by rw [List.length_append, hz0.out, hbl] at hL; omega
        have hdr : Hid (bkb m = (zs ++ bkb m).drop len0) := hide (drop_app zs (bkb m) len0 hz0.out).symm
        have HE := hide hE
        clear hbk hln hbl hfew hL hfk hE hbr
        go_wp2_with fail
        refine hP.out.mono ?_
        rintro e w3 ⟨hb3, ⟨h9, -⟩ | ⟨-, v, rfl, ho⟩⟩
        · exact absurd HE.out h9
        obtain ⟨ax, cx, rfl, hcx, hbs, -⟩ := own_bs ho (range_of hcr.out)
        rw [HL.out] at hbs ⊢
        have HX := hide hbs
        have hm4 := hide (hM.out w3 hb3)
        clear ho hbs hP hM
        go_wp2_with fail
        refine hm4.out.mono ?_
        rintro e w4 ⟨rfl, hb4⟩
        have B4 := hide (bmore hb3 hb4)
        have hT := btake_any ax L cx (zs ++ bkb m) len0 w4 (by omega) (HX.out.below hb4 (Nat.le_refl _)) hLm.2 (bkb m) hdr.out
        rw [hnx.out] at hT
        have HT := hide hT
        have HX4 := hide (HX.out.below hb4 (Nat.le_refl _))
        clear hT hb3 hb4 hm4 HX
        go_wp2_with fail
        refine HT.out.mono ?_
        rintro e w5 ⟨hb5, ⟨h9, -⟩ | ⟨-, v, rfl, ho⟩⟩
        · rw [HBK1.out] at h9; cases h9
        rw [HBK2.out] at ho
        obtain ⟨ay, cy, rfl, hcy, hIy, -⟩ := ownI_is ho hwf.out
        have B5 := hide (bmore B4.out hb5)
        have hlen : m.length = nq := (HIS.out wr (Below.refl _ _)).1
        rw [hlen] at hIy ⊢
        have p0 : ∀ p : Kp w5, (convert 22 9 (.slice ax L cx)).run Try.prog p.W = .ok (.string (strOfNums (zs ++ bkb m))) p.W := fun p => conv_bs (HX4.out.below (bmore hb5 p.h) (Nat.le_refl _))
        have q0 : ∀ p : Kp w5, (convert 22 9 (.slice a0 len0 cap0)).run Try.prog p.W = .ok (.string (strOfNums zs)) p.W := fun p => conv_bs (HBS.out _ (bmore B5.out p.h))
        have cB : Hid (∀ p : Kp w5, Calls Try.prog 14 #[.slice aq nq cq] p.W fun e w'' => e = .returned (.string (strOfNums (bkb m))) ∧ ∃ q : Kp w5, w'' = q.W) := hide fun p => kp_call (block_any aq nq cq m _ (HIS.out _ (bmore B5.out p.h)) hNl)
        have cE : Hid (∀ p : Kp w5, Calls Try.prog 15 #[.slice ay nq cy, .slice aq nq cq] p.W fun e w'' => e = .returned (.bool true) ∧ ∃ q : Kp w5, w'' = q.W) := hide fun p => kp_call (equal_same ay aq nq cy cq m _ (by omega) (hIy.below p.h (Nat.le_refl _)) (HIS.out _ (bmore B5.out p.h)))
        have z1 : (strOfNums (zs ++ bkb m)).size = L := by rw [str_size, HL.out]
        have z2 : (strOfNums zs).size = len0 := by rw [str_size, hz0.out]
        obtain ⟨LK, z3⟩ : ∃ LK, (strOfNums (bkb m)).size = LK := ⟨_, rfl⟩
        have z4 : LK ≤ 6000 := by rw [← z3, str_size]; have := HL.out; rw [List.length_append] at this; omega
        have hadd : ∀ W, (Op.stringOp .add (strOfNums zs) (strOfNums (bkb m))).run Try.prog W = .ok (.string (strOfNums (zs ++ bkb m))) W := fun W => by
          rw [← str_app]
          exact run_string_add_sum W _ _ (by rw [z2, z3]; omega)
        have hne : Nonempty (Kp w5) := ⟨⟨w5, Below.refl _ _⟩⟩
        generalize strOfNums (zs ++ bkb m) = SX at *
        generalize strOfNums (bkb m) = SK at *
        generalize strOfNums zs = SB at *
        clear ho hIy HT HX4 hb5 hdr hnx HBK1 HBK2 hcr
        go_wp2_with fail
        refine wp_region_kept (by kernel_rfl) (by kernel_rfl) ?_
        repeat (first
          | go_big_quiet_step (first | (go_at_call 14; exact cB.out _) | (go_at_call 15; exact cE.out _))
          | fail)
        refine wpQuiet_nil ?_
        intro w6 hw'
        have HB6 : Hid (Below wr.heap.size wr w6) := by
          obtain ⟨⟨w3', hb3⟩, hw''⟩ := hw'
          rw [hw'']; exact hide (bmore B5.out hb3)
        clear hw' hne cB cE p0 q0
        go_wp2
        go_roundw
        case rel => exact ⟨1 + 1, by omega, by go_num, hide (bmore hB.out HB6.out)⟩
        case measure => simp [intOf]
      · have hE1 : (bme m != bme m) = false := by simp
        have hE2 : (bme m != 0) = true := by simp [hE]
        have HE := hide hE
        generalize bme m = E at *
        clear hE
        go_wp2_with fail
        refine hP.out.mono ?_
        rintro e w3 ⟨hb3, ⟨-, rfl⟩ | ⟨h9, -⟩⟩
        case inr => exact absurd h9 HE.out
        have hm4 := hide (hM.out w3 hb3)
        clear hP hM
        go_wp2_with fail
        refine hm4.out.mono ?_
        rintro e w4 ⟨rfl, hb4⟩
        have B4 := hide (bmore hb3 hb4)
        clear hb3 hb4 hm4
        go_wp2
        go_roundw
        case rel => exact ⟨1 + 1, by omega, by go_num, hide (bmore hB.out B4.out)⟩
        case measure => simp [intOf]
    · clear hk HI0 HI1
      by_cases hp : at9 < 0 ∨ (len0 : Int) < at9
      · have hT := hide (btake_arg a0 len0 cap0 at9 wr (by omega) hp)
        have hU := hide (fun W => ltake_arg (strOfNums zs) at9 W (by rw [str_size, hz0.out]; omega) (by rw [str_size, hz0.out]; exact hp))
        have q0 := conv_bs (H0.out wr hB.out)
        have hEq := hide (fun W => equal_same none none 0 0 0 [] W (by omega) (is_nil W) (is_nil W))
        generalize strOfNums zs = SB at *
        go_wp2_with (first
          | (go_at_call 13; refine hT.out.mono ?_; rintro e w3 ⟨rfl, hw3⟩; subst hw3)
          | (go_at_call 16; refine (hU.out _).mono ?_; rintro e w4 ⟨rfl, hw4⟩; subst hw4)
          | (go_at_call 15; refine (hEq.out _).mono ?_; rintro e w5 ⟨rfl, hb5⟩)
          | (go_at_call 8; refine (awake_any _).mono ?_; rintro e w6 ⟨rfl, hb6⟩))
        go_ret
        exact ⟨rfl, bmore (bmore (bmore B2.out hB.out) hb5) hb6⟩
      · obtain ⟨P, hP⟩ := Int.eq_ofNat_of_zero_le (show 0 ≤ at9 by omega)
        subst hP
        have hPl : P ≤ len0 := by omega
        have hT := hide (btake_any a0 len0 cap0 zs P wr (by omega) (H0.out wr hB.out) hPl (zs.drop P) rfl)
        have hU := hide (fun W => ltake_any zs P W (by rw [hz0.out]; omega) ByteL0.out (by rw [hz0.out]; exact hPl) (zs.drop P) rfl)
        have hwf := hide (rd_wf (bo (zs.drop P)) (bo_range (H0.out wr hB.out) P))
        have HQ := hide (fun W (hW : Below wr.heap.size wr W) => conv_bs (H0.out W (bmore hB.out hW)))
        generalize strOfNums zs = SB at *
        generalize zs.drop P = X at *
        go_wp2_with fail
        refine hT.out.mono ?_
        rintro e w3 ⟨hb3, ⟨h9, rfl⟩ | ⟨h9, v3, rfl, ho3⟩⟩
        · have q0 := HQ.out w3 hb3
          have H9 := hide h9
          have hEq := hide (fun W => equal_same none none 0 0 0 [] W (by omega) (is_nil W) (is_nil W))
          clear h9
          go_wp2_with fail
          refine (hU.out _).mono ?_
          rintro e w4 ⟨hb4, ⟨-, rfl⟩ | ⟨h8, -⟩⟩
          case inr => rw [H9.out] at h8; cases h8
          have B4 := hide (bmore hb3 hb4)
          clear hb3 hb4 q0
          go_wp2_with (first
            | (go_at_call 15; refine (hEq.out _).mono ?_; rintro e w5 ⟨rfl, hb5⟩)
            | (go_at_call 8; refine (awake_any _).mono ?_; rintro e w6 ⟨rfl, hb6⟩))
          go_ret
          exact ⟨rfl, bmore (bmore (bmore (bmore B2.out hB.out) B4.out) hb5) hb6⟩
        · have q0 := HQ.out w3 hb3
          have H9 := hide h9
          obtain ⟨a3, c3, rfl, hc3, hI3, -⟩ := ownI_is ho3 hwf.out
          have HI3 := hide hI3
          clear h9 hI3 ho3
          generalize hnx : (P : Int) + 12 + ln X = nx at *
          go_wp2_with fail
          refine (hU.out _).mono ?_
          rintro e w4 ⟨hb4, ⟨h8, -⟩ | ⟨-, v4, rfl, ho4⟩⟩
          · rw [H9.out] at h8; cases h8
          obtain ⟨a4, c4, rfl, hc4, hI4, -⟩ := ownI_is ho4 hwf.out
          have hN : (bx X).length ≤ 9223372036854775807 := Nat.le_trans hI4.2.1.1 hc4
          have hEq := hide (equal_same a3 a4 (bx X).length c3 c4 (bx X) w4 hN (HI3.out.below hb4 (Nat.le_refl _)) hI4)
          have B4 := hide (bmore hb3 hb4)
          clear hb3 hb4 q0 ho4 hI4
          generalize (bx X).length = N9 at *
          go_wp2_with (first
            | (go_at_call 15; refine hEq.out.mono ?_; rintro e w5 ⟨rfl, hb5⟩)
            | (go_at_call 8; refine (awake_any _).mono ?_; rintro e w6 ⟨rfl, hb6⟩))
          go_ret
          exact ⟨rfl, bmore (bmore (bmore (bmore B2.out hB.out) B4.out) hb5) hb6⟩
theorem puts_walk (a0 a1 : Option Addr) (len0 cap0 len1 cap1 : Nat) (zs : List Int) (l : List It) (at9 : Int) (w : World) (h0 : Bs w a0 len0 cap0 zs ∧ len0 ≤ 9223372036854775807) (h1 : Is w a1 len1 cap1 l) (hl1 : len1 ≤ 9223372036854775807) (hc1 : cap1 ≤ 9223372036854775807) :
    Calls Try.prog 3 #[.slice a0 len0 cap0, .slice a1 len1 cap1, .int .i64 at9] w fun e w' => e = .returned (.bool true) ∧ Below w.heap.size w w' := by
  by_cases h : 2000 < len0 ∨ 150 < len1
  · exact puts_long a0 a1 len0 cap0 len1 cap1 at9 w h0.2 hl1 h
  · exact puts_go a0 a1 len0 cap0 len1 cap1 zs l at9 w h0.1 h1 hc1 (by omega) (by omega)

end Go.Proofs.Ytcgfopkoalnjkaa.Clep
