/- What the statement BlockRaw does when called: true. Conditions: at most 2^41 items. -/
import Derived.Test.YtcgfopkoalnjkaaZx
import Derived.Test.YtcgfopkoalnjkaaXd
import Derived.Test.YtcgfopkoalnjkaaXo
import Derived.Test.YtcgfopkoalnjkaaZa
namespace Go.Proofs.Ytcgfopkoalnjkaa.Clep
open Go.RowKit
set_option linter.unusedVariables false

attribute [local go_sem ↓] cut_lh
theorem bs_lt {w w' : World} {B g o len cap : Nat} {zs : List Int} (h : Bs w (some ⟨g, o, none⟩) len cap zs) (hb : Below B w w') (hg : g < B) : Bs w' (some ⟨g, o, none⟩) len cap zs := by
  refine ⟨h.1, h.2.1, h.2.2.1, fun h0 => ?_⟩
  obtain ⟨b, off, ho, hc⟩ := h.2.2.2 h0
  refine ⟨b, off, ho, fun i hi => ?_⟩
  cases ho
  rw [hb.cell (p := ⟨g, o + i, none⟩) hg]
  exact hc i hi
theorem rmw_bs {w : World} {g cap : Nat} {zs : List Int} (h : Rm w g cap zs) (K : Nat) (hK : K ≤ zs.length) : Bs w (some ⟨g, 0, none⟩) K cap (zs.take K) :=
  ⟨by rw [List.length_take]; omega, ⟨by have := h.le; omega, fun e => by cases e⟩, range_of fun z hz => h.range z (List.mem_of_mem_take hz), fun _ => ⟨g, 0, rfl, fun i hi => by
    rw [Nat.zero_add, h.cell i (by omega)]
    simp [List.getD, hi]⟩⟩
set_option maxRecDepth 100000 in
set_option maxHeartbeats 8000000 in
theorem raw_walk (a0 a2 : Option Addr) (len0 cap0 len2 cap2 : Nat) (zs : List Int) (l : List It) (at9 to9 by9 cut9 : Int) (w : World) (h0 : Bs w a0 len0 cap0 zs ∧ len0 ≤ 9223372036854775807) (h2 : Is w a2 len2 cap2 l) (hc2 : cap2 ≤ 9223372036854775807) (m2 : len2 ≤ 3518437208880) (hby : 0 ≤ by9 ∧ by9 < 256) :
    Calls Try.prog 7 #[.slice a0 len0 cap0, .int .i64 at9, .slice a2 len2 cap2, .int .i64 to9, .int .u8 by9, .int .i64 cut9] w fun e w' => e = .returned (.bool true) ∧ Below w.heap.size w w' := by
  have hll := h2.1
  have hO := hide (lone_any a2 len2 cap2 l w h2 m2 hc2)
  have HLL := hide (show l.length ≤ 3518437208880 by omega)
  have HR := hide (qL_rise l)
  have HK := hide (qL_ok l)
  have HW := hide (qL_all It.wf l h2.2.2.1)
  have H0 := hide (fun W (hW : Below w.heap.size w W) => h0.1.below hW (Nat.le_refl _))
  have hz0 := hide h0.1.1
  have HBY0 := hide (bs_range h0.1)
  have hm0 := h0.2
  clear h0 h2 hll
  go_enter Try.func7, Try.ntmps7
  go_wp2_with fail
  refine hO.out.mono ?_
  rintro e w1 ⟨v1, rfl, hb1, zz, ho1, hz1, hm1⟩
  have hq := hide (q_any v1 zz l w.heap.size w1 hb1.size ho1 (fun z hz => ⟨(hz1 z hz).1.below hb1 (Nat.le_refl _), (hz1 z hz).2⟩) hm1 HLL.out)
  have B1 := hide hb1
  clear hO ho1 hz1 hm1 hb1
  go_wp2_with fail
  refine hq.out.mono ?_
  rintro e w2 ⟨aq, cq, rfl, hIq, hcq, hb2, -⟩
  have B2 := hide (bmore B1.out hb2)
  have HIQ := hide hIq
  generalize qL l = m at *
  obtain ⟨nq, hnq⟩ : ∃ nq, m.length = nq := ⟨_, rfl⟩
  rw [hnq] at HIQ ⊢
  have HNQ := hide hnq
  have hnm : nq ≤ 9223372036854775807 := Nat.le_trans HIQ.out.2.1.1 hcq
  clear hq hb2 hIq B1 hnq
  by_cases hl0 : 2000 < len0
  · go_wp2_with (first | (go_at_call 8; refine (awake_any _).mono ?_; rintro e w9 ⟨rfl, hb9⟩))
    go_ret
    exact ⟨rfl, bmore B2.out hb9⟩
  by_cases hlq : 60 < nq
  · go_wp2_with (first | (go_at_call 8; refine (awake_any _).mono ?_; rintro e w9 ⟨rfl, hb9⟩))
    go_ret
    exact ⟨rfl, bmore B2.out hb9⟩
  by_cases hn0 : nq = 0
  · subst hn0
    have BT := B2
    have HBS := hide (fun W (hW : Below w2.heap.size w2 W) => H0.out W (bmore B2.out hW))
    have HBY := HBY0
    have HLN := hz0
    clear H0 HIQ
    by_cases hp0 : at9 < 0
    · have hT := hide (btake_arg a0 len0 cap0 at9 w2 (by omega) (.inl hp0))
      go_wp2_with (first | (go_at_call 13; refine hT.out.mono ?_; rintro e w8 ⟨rfl, hw8⟩; subst hw8) | (go_at_call 8; refine (awake_any _).mono ?_; rintro e w9 ⟨rfl, hb9⟩))
      go_ret
      exact ⟨rfl, bmore BT.out hb9⟩
    by_cases hp1 : (len0 : Int) < at9
    · have hT := hide (btake_arg a0 len0 cap0 at9 w2 (by omega) (.inr hp1))
      go_wp2_with (first | (go_at_call 13; refine hT.out.mono ?_; rintro e w8 ⟨rfl, hw8⟩; subst hw8) | (go_at_call 8; refine (awake_any _).mono ?_; rintro e w9 ⟨rfl, hb9⟩))
      go_ret
      exact ⟨rfl, bmore BT.out hb9⟩
    obtain ⟨P, hP⟩ := Int.eq_ofNat_of_zero_le (show 0 ≤ at9 by omega)
    subst hP
    have hPl : P ≤ len0 := by omega
    have hT := hide (btake_any a0 len0 cap0 zs P w2 (by omega) (HBS.out w2 (Below.refl _ _)) hPl (zs.drop P) rfl)
    have hwf := hide (rd_wf (bo (zs.drop P)) (bo_range (HBS.out w2 (Below.refl _ _)) P))
    have HCN := hide (isB_canon (zs.drop P) (ByteL.drop HBY.out P))
    have HXL : Hid ((zs.drop P).length = len0 - P) := hide (by rw [List.length_drop, HLN.out])
    have HDR : Hid (∀ NX, (zs.take NX).drop P = (zs.drop P).take (NX - P)) := hide fun NX => List.drop_take
    clear hp0 hp1
    obtain ⟨X, hX⟩ : ∃ X, zs.drop P = X := ⟨_, rfl⟩
    rw [hX] at hT hwf HCN HXL HDR
    have HBX := hide (ByteL.drop HBY.out P)
    rw [hX] at HBX
    clear hX
    cases hB : isB X with
    | false =>
      rw [hB] at hT
      clear hB
      go_wp2_with fail
      refine hT.out.mono ?_
      rintro e w8 ⟨hb8, ⟨-, rfl⟩ | ⟨h9, -⟩⟩
      case inr => cases h9
      have B8 := hide (bmore BT.out hb8)
      clear hT hb8
      go_wp2_with (first | (go_at_call 8; refine (awake_any _).mono ?_; rintro e w9 ⟨rfl, hb9⟩))
      go_ret
      exact ⟨rfl, bmore B8.out hb9⟩
    | true =>
      have hce := (isB_iff.1 hB).1
      have hck := ce_ok X hce
      have hlr := ln_range X (range_of HBX.out)
      have hxl := HXL.out
      obtain ⟨NX, hNX⟩ : ∃ NX, P + 12 + (ln X).toNat = NX := ⟨_, rfl⟩
      have hnx : (P : Int) + 12 + ln X = (NX : Int) := by omega
      have hnl : NX ≤ len0 := by omega
      have hpn : P < NX := by omega
      have hcan := HCN.out hB
      have hcut : Hid ((zs.take NX).drop P = bkb (bx X)) := hide (by
        rw [HDR.out, show NX - P = (ln X).toNat + 12 by omega]; exact hcan)
      have hfit := isB_fit hB
      have hbz := hide (bme_of hfit (bx_ok X))
      have hxn := (fit_iff.1 hfit).2.1
      rw [hnx, hB] at hT
      clear hB hce hck hlr hxl hNX hnx hcan hfit HXL HDR HCN HBX
      go_wp2_with fail
      refine hT.out.mono ?_
      rintro e w8 ⟨hb8, ⟨h9, -⟩ | ⟨-, v8, rfl, ho8⟩⟩
      · cases h9
      obtain ⟨a8, c8, rfl, hc8, hI8, -⟩ := ownI_is ho8 hwf.out
      have hM := hide (fun W (hW : Below w8.heap.size w8 W) => blockmay_any a8 (bx X).length c8 (bx X) W (hI8.below hW (Nat.le_refl _)) (by omega))
      rw [hbz.out] at hM
      have hK := hide (fun W (hW : Below w8.heap.size w8 W) => block_any a8 (bx X).length c8 (bx X) W (hI8.below hW (Nat.le_refl _)) hxn)
      have B8 := hide (bmore BT.out hb8)
      have hz3 : (NX : Int) ≤ (cap0 : Int) := by have := (HBS.out w2 (Below.refl _ _)).2.1.1; omega
      have hz4 : (P : Int) ≤ (NX : Int) := by omega
      have q0 : ∀ p : Kp w8, (convert 22 9 (.slice (cut a0 cap0 P) (NX - P) (cap0 - P))).run Try.prog p.W = .ok (.string (strOfNums (bkb (bx X)))) p.W := fun p => by
        have := conv_bs ((HBS.out _ (bmore hb8 p.h)).cut P NX (by omega) hnl)
        rwa [hcut.out] at this
      have cM : Hid (∀ p : Kp w8, Calls Try.prog 12 #[.slice a8 (bx X).length c8] p.W fun e w'' => e = .returned (.int .i64 0) ∧ ∃ q : Kp w8, w'' = q.W) := hide fun p => kp_call (hM.out _ p.h)
      have cK : Hid (∀ p : Kp w8, Calls Try.prog 14 #[.slice a8 (bx X).length c8] p.W fun e w'' => e = .returned (.string (strOfNums (bkb (bx X)))) ∧ ∃ q : Kp w8, w'' = q.W) := hide fun p => kp_call (hK.out _ p.h)
      have cA : Hid (∀ p : Kp w8, Calls Try.prog 8 #[] p.W fun e w'' => e = .returned (.bool true) ∧ ∃ q : Kp w8, w'' = q.W) := hide fun p => kp_call (awake_any _)
      have hne : Nonempty (Kp w8) := ⟨⟨w8, Below.refl _ _⟩⟩
      have hz1 : (P : Int) < (NX : Int) := by omega
      have hz2 : (NX : Int) ≤ (len0 : Int) := by omega
      generalize strOfNums (bkb (bx X)) = SK at *
      generalize (bx X).length = N8 at *
      clear hT ho8 hI8 hb8 hM hK hbz hcut
      go_wp2_with fail
      refine wp_region_kept (by kernel_rfl) (by kernel_rfl) ?_
      repeat (first
        | go_big_quiet_step (first | (go_at_call 12; exact cM.out _) | (go_at_call 14; exact cK.out _) | (go_at_call 8; exact cA.out _))
        | fail)
      refine wpQuiet_nil ?_
      intro w9 hw'
      have HB9 : Hid (Below w.heap.size w w9) := by
        obtain ⟨⟨w3', hb3⟩, hw''⟩ := hw'
        rw [hw'']; exact hide (bmore B8.out hb3)
      clear hw' hne cM cK cA q0
      go_wp2
      go_ret
      exact ⟨rfl, HB9.out⟩

  have hn1 : 0 < nq := by omega
  have hml : m.length ≤ 100 := by rw [HNQ.out]; omega
  have hblk := hide (block_any aq nq cq m w2 HIQ.out (by omega))
  have hfew := ibn_few m hml
  have hlen := bkb_len m
  have HRG := hide (bkb_range m HW.out hml)
  obtain ⟨s0, hs0⟩ : ∃ s0, bkb m = s0 := ⟨_, rfl⟩
  rw [hs0] at hblk HRG hlen
  obtain ⟨L, hL⟩ : ∃ L, s0.length = L := ⟨_, rfl⟩
  have HL := hide hL
  have hL1 : 0 < L := by omega
  have hL2 : L ≤ 4000 := by omega
  obtain ⟨P6, hP6, hQ6⟩ := place_of to9 65535 (by omega) (L : Int) L (by omega) (by omega)
  obtain ⟨Q7, hP7, hQ7⟩ := place_of cut9 255 (by omega) ((L : Int) + 1) (L + 1) (by omega) (by omega)
  have hand6 := and_mask to9 65535 (by omega)
  have hand7 := and_mask cut9 255 (by omega)
  have t6 : (bits BinOp.and IntKind.i64 to9 65535).tmod (L : Int) = (P6 : Int) := hP6
  have u6 : (bits BinOp.and IntKind.i64 to9 65535) % (L : Int) = (P6 : Int) := by
    have hh := t6
    rw [Int.tmod_eq_emod_of_nonneg (show 0 ≤ bits BinOp.and IntKind.i64 to9 65535 from hand6.1)] at hh
    exact hh
  have t7 : (bits BinOp.and IntKind.i64 cut9 255).tmod ((L : Int) + 1) = (Q7 : Int) := hP7
  have u7 : (bits BinOp.and IntKind.i64 cut9 255) % ((L : Int) + 1) = (Q7 : Int) := by
    have hh := t7
    rw [Int.tmod_eq_emod_of_nonneg (show 0 ≤ bits BinOp.and IntKind.i64 cut9 255 from hand7.1)] at hh
    exact hh
  obtain ⟨K7, hK7⟩ : ∃ K7, L - Q7 = K7 := ⟨_, rfl⟩
  have hk7 : (L : Int) - (Q7 : Int) = (K7 : Int) := by omega
  have hk8 : K7 ≤ L := by omega
  clear hml hfew hlen hs0 hL hP6 hP7 hand6 hand7 hK7 hn0
  go_wp2_with fail
  refine hblk.out.mono ?_
  rintro e w3 ⟨rfl, hb3⟩
  obtain ⟨cap, w4, hrun, hcap, hb4, hrm⟩ := rm_str w3 s0 HRG.out (by rw [HL.out]; unfold maxLen; omega)
  rw [HL.out] at hrun hcap
  have hcmx := hrm.out.max
  unfold maxLen at hcmx
  have hcz := hrm.out.cell P6 (by rw [HL.out]; exact hQ6)
  have hfz := hrm.out.free P6 (by omega)
  obtain ⟨z8, hz8⟩ : ∃ z8, s0.getD P6 0 = z8 := ⟨_, rfl⟩
  rw [hz8] at hcz
  have hrm5 := hide (hrm.out.set P6 (by rw [HL.out]; exact hQ6) (bits BinOp.xor IntKind.u8 z8 by9) (xor_range _ _))
  have B4 := hide (bmore (bmore B2.out hb3) hb4.out)
  have hs3 : w.heap.size ≤ w3.heap.size := (bmore B2.out hb3).size
  have hch := Ch.set (P := fun b => b = w3.heap.size) w4 ⟨w3.heap.size, P6, none⟩ (.int .u8 (bits BinOp.xor IntKind.u8 z8 by9)) rfl
  have B5 := hide (Below.ch B4.out hch B4.out.size (fun i hi => by rw [hi]; exact hs3))
  obtain ⟨s5, hs5⟩ : ∃ s5, s0.set P6 (bits BinOp.xor IntKind.u8 z8 by9) = s5 := ⟨_, rfl⟩
  rw [hs5] at hrm5
  have hl5 : s5.length = L := by rw [← hs5, List.length_set, HL.out]
  obtain ⟨SS, hSS⟩ : ∃ SS, strOfNums s0 = SS := ⟨_, rfl⟩
  rw [hSS] at hrun ⊢
  have hgl : w3.heap.size < w4.heap.size := by
    obtain ⟨v, hv⟩ := Option.isSome_iff_exists.1 (hrm.out.some 0 (by omega))
    exact World.block_lt_of_cell? w4 _ hv
  obtain ⟨g, hg⟩ : ∃ g, w3.heap.size = g := ⟨_, rfl⟩
  rw [hg] at hrun hcz hfz hrm5 hgl B5
  have hsz5 : (w4.setCell ⟨g, P6, none⟩ (.int .u8 (bits BinOp.xor IntKind.u8 z8 by9))).heap.size = w4.heap.size := by simp [World.setCell]
  have A6 := (Below.refl _ (w4.setCell ⟨g, P6, none⟩ (.int .u8 (bits BinOp.xor IntKind.u8 z8 by9)))).alloc (Nat.le_refl _) (Obj.cells #[] 5)
  have HCC := hide ((rmw_bs hrm5.out K7 (by omega)).below A6 (Nat.le_refl _))
  have HZZ := hide ((H0.out _ B5.out).below A6 (Nat.le_refl _))
  have hO6 := own_lit (w4.setCell ⟨g, P6, none⟩ (.int .u8 (bits BinOp.xor IntKind.u8 z8 by9))) [] w4.heap.size (by rw [hsz5]; exact Nat.le_refl _) #[] rfl 0 rfl (by omega)
  rw [hsz5] at hO6
  have HO6 := hide hO6
  have hq6 : Hid (w4.heap.size ≤ ((w4.setCell ⟨g, P6, none⟩ (.int .u8 (bits BinOp.xor IntKind.u8 z8 by9))).alloc (Obj.cells #[] 5)).heap.size) := hide (by have := A6.size; rw [hsz5] at this; exact this)
  have B6 := hide (bmore B5.out A6)
  have HBYC : Hid (ByteL (s5.take K7)) := hide fun z hz => hrm5.out.range z (List.mem_of_mem_take hz)
  have hK5 : Hid ((s5.take K7).length = K7) := hide (by rw [List.length_take]; omega)
  have hn6 : Hid (([] : List Int).length + len0 ≤ 70368744177664) := hide (by simp; omega)
  have hsw : Hid (w.heap.size ≤ w4.heap.size) := hide B4.out.size
  clear hblk hrm hSS hs5 hz8 hb3 hb4 A6 hch HIQ hO6 hg hsz5 hs3 hl5
  go_wp2_with (first
    | (at_builtin; refine wpList_append_bytes rfl _ _ rfl w4.heap.size _ [] rfl HO6.out _ len0 cap0 zs rfl HZZ.out hn6.out hq6.out ?_)
    | fail)
  intro v6 w6 ho6 hb6
  try rw [List.nil_append] at ho6
  have HO7 := hide ho6
  have HC7 := hide (bs_lt HCC.out hb6 hgl)
  have BT6 := hide (B6.out.trans (hb6.mono hsw.out))
  have hn7 : Hid (zs.length + K7 ≤ 70368744177664) := hide (by rw [hz0.out]; omega)
  have hq7 : Hid (w4.heap.size ≤ w6.heap.size) := hide (Nat.le_trans hq6.out hb6.size)
  clear ho6 hb6 HCC HZZ HO6 B6 hq6 hn6 hcz hfz hrm5 hrun
  go_wp2_with (first
    | (at_builtin; refine wpList_append_bytes rfl _ _ rfl w4.heap.size v6 zs rfl HO7.out _ K7 cap (s5.take K7) rfl HC7.out hn7.out hq7.out ?_)
    | fail)
  intro v7 w7 ho7 hb7
  have HBY : Hid (ByteL (zs ++ s5.take K7)) := hide (cat_range HBY0.out HBYC.out)
  obtain ⟨ab, cb, rfl, hcb, hbs7, -⟩ := own_bs ho7 (range_of HBY.out)
  have BT := hide (BT6.out.trans (hb7.mono hsw.out))
  obtain ⟨LB, hLB⟩ : ∃ LB, (zs ++ s5.take K7).length = LB := ⟨_, rfl⟩
  have HLN := hide hLB
  have hlb : LB ≤ 7000 := by rw [List.length_append, hz0.out, hK5.out] at hLB; omega
  rw [hLB] at hbs7 ⊢
  have HBS := hide (fun W (hW : Below w7.heap.size w7 W) => hbs7.below hW (Nat.le_refl _))
  clear ho7 hb7 hbs7 hLB HO7 HC7 H0 hn7 hq7 BT6
  generalize zs ++ s5.take K7 = ZB at *
  by_cases hp0 : at9 < 0
  · have hT := hide (btake_arg ab LB cb at9 w7 (by omega) (.inl hp0))
    go_wp2_with (first | (go_at_call 13; refine hT.out.mono ?_; rintro e w8 ⟨rfl, hw8⟩; subst hw8) | (go_at_call 8; refine (awake_any _).mono ?_; rintro e w9 ⟨rfl, hb9⟩))
    go_ret
    exact ⟨rfl, bmore BT.out hb9⟩
  by_cases hp1 : (LB : Int) < at9
  · have hT := hide (btake_arg ab LB cb at9 w7 (by omega) (.inr hp1))
    go_wp2_with (first | (go_at_call 13; refine hT.out.mono ?_; rintro e w8 ⟨rfl, hw8⟩; subst hw8) | (go_at_call 8; refine (awake_any _).mono ?_; rintro e w9 ⟨rfl, hb9⟩))
    go_ret
    exact ⟨rfl, bmore BT.out hb9⟩
  obtain ⟨P, hP⟩ := Int.eq_ofNat_of_zero_le (show 0 ≤ at9 by omega)
  subst hP
  have hPl : P ≤ LB := by omega
  have hT := hide (btake_any ab LB cb ZB P w7 (by omega) (HBS.out w7 (Below.refl _ _)) hPl (ZB.drop P) rfl)
  have hwf := hide (rd_wf (bo (ZB.drop P)) (bo_range (HBS.out w7 (Below.refl _ _)) P))
  have HCN := hide (isB_canon (ZB.drop P) (ByteL.drop HBY.out P))
  have HXL : Hid ((ZB.drop P).length = LB - P) := hide (by rw [List.length_drop, HLN.out])
  have HDR : Hid (∀ NX, (ZB.take NX).drop P = (ZB.drop P).take (NX - P)) := hide fun NX => List.drop_take
  clear hp0 hp1
  obtain ⟨X, hX⟩ : ∃ X, ZB.drop P = X := ⟨_, rfl⟩
  rw [hX] at hT hwf HCN HXL HDR
  have HBX := hide (ByteL.drop HBY.out P)
  rw [hX] at HBX
  clear hX
  cases hB : isB X with
  | false =>
    rw [hB] at hT
    clear hB
    go_wp2_with fail
    refine hT.out.mono ?_
    rintro e w8 ⟨hb8, ⟨-, rfl⟩ | ⟨h9, -⟩⟩
    case inr => cases h9
    have B8 := hide (bmore BT.out hb8)
    clear hT hb8
    go_wp2_with (first | (go_at_call 8; refine (awake_any _).mono ?_; rintro e w9 ⟨rfl, hb9⟩))
    go_ret
    exact ⟨rfl, bmore B8.out hb9⟩
  | true =>
    have hce := (isB_iff.1 hB).1
    have hck := ce_ok X hce
    have hlr := ln_range X (range_of HBX.out)
    have hxl := HXL.out
    obtain ⟨NX, hNX⟩ : ∃ NX, P + 12 + (ln X).toNat = NX := ⟨_, rfl⟩
    have hnx : (P : Int) + 12 + ln X = (NX : Int) := by omega
    have hnl : NX ≤ LB := by omega
    have hpn : P < NX := by omega
    have hcan := HCN.out hB
    have hcut : Hid ((ZB.take NX).drop P = bkb (bx X)) := hide (by
      rw [HDR.out, show NX - P = (ln X).toNat + 12 by omega]; exact hcan)
    have hfit := isB_fit hB
    have hbz := hide (bme_of hfit (bx_ok X))
    have hxn := (fit_iff.1 hfit).2.1
    rw [hnx, hB] at hT
    clear hB hce hck hlr hxl hNX hnx hcan hfit HXL HDR HCN HBX
    go_wp2_with fail
    refine hT.out.mono ?_
    rintro e w8 ⟨hb8, ⟨h9, -⟩ | ⟨-, v8, rfl, ho8⟩⟩
    · cases h9
    obtain ⟨a8, c8, rfl, hc8, hI8, -⟩ := ownI_is ho8 hwf.out
    have hM := hide (fun W (hW : Below w8.heap.size w8 W) => blockmay_any a8 (bx X).length c8 (bx X) W (hI8.below hW (Nat.le_refl _)) (by omega))
    rw [hbz.out] at hM
    have hK := hide (fun W (hW : Below w8.heap.size w8 W) => block_any a8 (bx X).length c8 (bx X) W (hI8.below hW (Nat.le_refl _)) hxn)
    have B8 := hide (bmore BT.out hb8)
    have hz3 : (NX : Int) ≤ (cb : Int) := by have := (HBS.out w7 (Below.refl _ _)).2.1.1; omega
    have hz4 : (P : Int) ≤ (NX : Int) := by omega
    have q0 : ∀ p : Kp w8, (convert 22 9 (.slice (cut ab cb P) (NX - P) (cb - P))).run Try.prog p.W = .ok (.string (strOfNums (bkb (bx X)))) p.W := fun p => by
      have := conv_bs ((HBS.out _ (bmore hb8 p.h)).cut P NX (by omega) hnl)
      rwa [hcut.out] at this
    have cM : Hid (∀ p : Kp w8, Calls Try.prog 12 #[.slice a8 (bx X).length c8] p.W fun e w'' => e = .returned (.int .i64 0) ∧ ∃ q : Kp w8, w'' = q.W) := hide fun p => kp_call (hM.out _ p.h)
    have cK : Hid (∀ p : Kp w8, Calls Try.prog 14 #[.slice a8 (bx X).length c8] p.W fun e w'' => e = .returned (.string (strOfNums (bkb (bx X)))) ∧ ∃ q : Kp w8, w'' = q.W) := hide fun p => kp_call (hK.out _ p.h)
    have cA : Hid (∀ p : Kp w8, Calls Try.prog 8 #[] p.W fun e w'' => e = .returned (.bool true) ∧ ∃ q : Kp w8, w'' = q.W) := hide fun p => kp_call (awake_any _)
    have hne : Nonempty (Kp w8) := ⟨⟨w8, Below.refl _ _⟩⟩
    have hz1 : (P : Int) < (NX : Int) := by omega
    have hz2 : (NX : Int) ≤ (LB : Int) := by omega
    generalize strOfNums (bkb (bx X)) = SK at *
    generalize (bx X).length = N8 at *
    clear hT ho8 hI8 hb8 hM hK hbz hcut
    go_wp2_with fail
    refine wp_region_kept (by kernel_rfl) (by kernel_rfl) ?_
    repeat (first
      | go_big_quiet_step (first | (go_at_call 12; exact cM.out _) | (go_at_call 14; exact cK.out _) | (go_at_call 8; exact cA.out _))
      | fail)
    refine wpQuiet_nil ?_
    intro w9 hw'
    have HB9 : Hid (Below w.heap.size w w9) := by
      obtain ⟨⟨w3', hb3⟩, hw''⟩ := hw'
      rw [hw'']; exact hide (bmore B8.out hb3)
    clear hw' hne cM cK cA q0
    go_wp2
    go_ret
    exact ⟨rfl, HB9.out⟩

end Go.Proofs.Ytcgfopkoalnjkaa.Clep
