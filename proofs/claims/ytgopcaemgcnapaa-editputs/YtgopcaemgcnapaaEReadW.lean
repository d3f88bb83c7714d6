/- What edit.Read does when called (a walk over the translated program): for any bytes of at most a million. -/
import Derived.Test.YtgopcaemgcnapaaERead
import Derived.Test.YtgopcaemgcnapaaEApplyP
import Derived.Deep.RegionLaw
namespace Go.Proofs.Ytgopcaemgcnapaa.Clep
open Go.RowKit
set_option linter.unusedVariables false
set_option maxRecDepth 10000

section
attribute [local go_sem ↓] cut_l
set_option maxHeartbeats 4000000 in
theorem read_any (ao : Option Addr) (len cap : Nat) (zs : List Int) (w : World) (hm : len ≤ 1000000) (hcm : cap ≤ 9223372036854775807) (h : Bs w ao len cap zs) :
    Calls Try.prog 17 #[.slice ao len cap] w (RdA (red zs) w) := by
  have hzl := h.1
  have hbr := bs_range h
  have HB := hide h
  have HBR := hide (show ByteL zs from hbr)
  have HRF := hide (red_form zs)
  have HRN := hide (show red zs = none → ∀ W, Below w.heap.size w W → RdA (red zs) w (.returned (.tuple #[edV none 0 0 none 0 0 zE, .int .i64 3])) W from fun e W hW => by rw [e]; exact ⟨rfl, hW⟩)
  have HRS := hide (show ∀ E W da dc aa ac, red zs = some E → Zs W da E.d.length dc E.d → Fs W aa E.a.length ac E.a → Below w.heap.size w W → RdA (red zs) w (.returned (.tuple #[edV da E.d.length dc aa E.a.length ac E, .int .i64 0])) W from fun E W da dc aa ac e h1 h2 h3 => by rw [e]; exact ⟨⟨da, dc, aa, ac, rfl, h1, h2⟩, h3⟩)
  have HOK := hide (show okR zs = (decide ((ul zs 40).2.2 = 0) && (decide (cX zs ≤ 40) && (!(stN (s1X zs) (2 * (cX zs).toNat + 5)).2 && decide ((stN (s1X zs) (2 * (cX zs).toNat + 5)).1.length = 0)))) from rfl)
  have HUP := hide (ul_place zs 40)
  have HUN := hide (ul_nums zs 40 hbr (by omega))
  have HSM := hide (show smE (rawE zs) = ⟨(ul zs 40).1.map sm, (fX zs (cX zs).toNat).map smF, sm (nr (s1X zs) (2 * (cX zs).toNat)), nr (s1X zs) (2 * (cX zs).toNat + 1), nr (s1X zs) (2 * (cX zs).toNat + 2), nr (s1X zs) (2 * (cX zs).toNat + 3), nr (s1X zs) (2 * (cX zs).toNat + 4)⟩ from rfl)
  have CU := hide (fun W (hW : Below w.heap.size w W) => unlist_any ao len cap zs 40 W (by omega) hcm (h.below hW (Nat.le_refl _)) (by omega) (by omega) (ul zs 40) (hide rfl))
  have HS0 := hide (show s0X zs = (zs.drop (ul zs 40).2.1.toNat, false) from rfl)
  generalize RdA (red zs) w = RR at *
  obtain ⟨d0, sz, er, hu⟩ : ∃ d sz er, ul zs 40 = (d, sz, er) := ⟨_, _, _, rfl⟩
  rw [hu] at HOK HUP HUN HSM CU HS0
  simp only at HOK HUP HUN HSM CU HS0
  unfold edV zE at HRN
  unfold edV at HRS
  simp only at HRN
  clear h hbr hu
  have A0 := (Below.refl w.heap.size w).alloc (Nat.le_refl _) (Obj.cells #[.slice none 0 0, .slice none 0 0, .int .i64 0, .int .u64 0, .int .u64 0, .int .u64 0, .int .u64 0] 31)
  have HB0 := hide A0
  have HZ0 := hide (ek_new w #[.slice none 0 0, .slice none 0 0, .int .i64 0, .int .u64 0, .int .u64 0, .int .u64 0, .int .u64 0] 31)
  have HSA := hide (show (w.alloc (Obj.cells #[.slice none 0 0, .slice none 0 0, .int .i64 0, .int .u64 0, .int .u64 0, .int .u64 0, .int .u64 0] 31)).heap.size = w.heap.size + 1 by simp)
  clear A0
  go_enter Try.func17, Try.ntmps17
  go_wp2_with fail
  refine (CU.out _ HB0.out).mono ?_
  rintro e w1 ⟨v1, rfl, ho1, hb1⟩
  have HZ1 := hide (HZ0.out.below hb1 HZ0.out.lt)
  have HB1 := hide (HB0.out.trans (hb1.mono HB0.out.size))
  have HO1 := hide ho1
  have hl1 : w.heap.size + 1 ≤ w1.heap.size := by rw [← HSA.out]; exact hb1.size
  clear CU ho1 hb1 HB0 HZ0 HSA
  by_cases her : er = 0
  · subst her
    have hup := HUP.out rfl
    have hun := HUN.out
    have hdl : (d0.length : Int) ≤ 40 := hun.2 rfl
    rw [show decide ((0 : Int) = 0) = true from rfl, Bool.true_and] at HOK
    obtain ⟨sn, rfl⟩ := Int.eq_ofNat_of_zero_le hup.1
    simp only [Int.toNat_natCast] at HS0
    have hsn : (sn : Int) ≤ (len : Int) := by omega
    have hs0n : (0 : Int) ≤ (sn : Int) := by omega
    have HBW := hide (HB.out.below HB1.out (Nat.le_refl _))
    have HRD := hide (show Rdr (w1.alloc (Obj.cells #[.slice (cut ao cap sn) (len - sn) (cap - sn), .bool false] 88)) w.heap.size w1.heap.size (s0X zs) from by
      have hcut := HBW.out.cut sn len (by omega) (Nat.le_refl _)
      rw [List.take_of_length_le (by omega)] at hcut
      rw [HS0.out]
      refine ⟨_, _, _, ek_new w1 _ _, hcut.below ((Below.refl _ w1).alloc (Nat.le_refl _) _) (Nat.le_refl _), by omega, fun h0 a ha => ?_, by omega⟩
      obtain ⟨b, off, e1, hc⟩ := HB.out.2.2.2 (by omega)
      refine ecut_block (fun x hx => ?_) a ha
      rw [e1] at hx
      cases hx
      exact World.block_lt_of_cell? w _ (hc 0 (by omega)))
    have hA1 := (Below.refl _ w1).alloc (Nat.le_refl _) (Obj.cells #[.slice (cut ao cap sn) (len - sn) (cap - sn), .bool false] 88)
    have CS := hide (smalls_any v1 d0 _ _ (ownU_below HO1.out hA1) hun.1 (by omega))
    have HA1 := hide hA1
    have HSB := hide (show (w1.alloc (Obj.cells #[.slice (cut ao cap sn) (len - sn) (cap - sn), .bool false] 88)).heap.size = w1.heap.size + 1 by simp)
    have HDR := hide (show ∀ z ∈ d0.map sm, -9223372036854775808 ≤ z ∧ z ≤ 9223372036854775807 from fun z hz => by
      obtain ⟨y, hy, rfl⟩ := List.mem_map.1 hz
      have := sm_range (hun.1 y hy).1
      omega)
    clear HUP HUN hun hA1
    go_wp2_with fail
    refine CS.out.mono ?_
    rintro e w2 ⟨v2, rfl, ho2, hb2⟩
    obtain ⟨dd, dc, hv2, hdc, hzs2, hzb2⟩ := ownZ_zs ho2 HDR.out
    obtain ⟨dn, hdn⟩ : ∃ dn, (d0.map sm).length = dn := ⟨_, rfl⟩
    have HDN := hide hdn
    rw [hdn] at hv2 hzs2
    subst hv2
    have HB2 := hide ((HB1.out.trans (HA1.out.mono HB1.out.size)).trans (hb2.mono (by rw [HSB.out]; omega)))
    have hA2 := (Below.refl _ w2).alloc (Nat.le_refl _) (Obj.cells #[.slice dd dn dc, .slice none 0 0, .int .i64 0, .int .u64 0, .int .u64 0, .int .u64 0, .int .u64 0] 31)
    have hs2 : w1.heap.size + 1 ≤ w2.heap.size := by rw [← HSB.out]; exact hb2.size
    have ST := hide (show RS w w1.heap.size w2.heap.size dd dn dc (d0.map sm) (w2.alloc (Obj.cells #[.slice dd dn dc, .slice none 0 0, .int .i64 0, .int .u64 0, .int .u64 0, .int .u64 0, .int .u64 0] 31)) (s0X zs) #[.slice dd dn dc, .slice none 0 0, .int .i64 0, .int .u64 0, .int .u64 0, .int .u64 0, .int .u64 0] (.slice none 0 0) [] from
      ⟨(HRD.out.keep hb2).keep hA2, ek_new w2 _ _, ownF_nil _ _, hzs2.below hA2 (Nat.le_refl _), fun a ha => (by
        have h1 := World.ownsRow.lt ho2 a.block (by rw [ha]; rfl)
        rw [HSB.out] at h1
        omega), ((HZ1.out.below HA1.out HZ1.out.lt).below hb2 (Nat.lt_of_lt_of_le HZ1.out.lt HA1.out.size)).below hA2 (by omega), HB2.out.trans (hA2.mono HB2.out.size), by simp, by omega⟩)
    have CT := hide (rdtake_any w.heap.size w1.heap.size (s0X zs) _ ST.out.rd (by rw [HS0.out]; simp; omega))
    have hRQ : w1.heap.size < w2.heap.size := by omega
    clear CS ho2 hb2 hzs2 hzb2 hA2 HA1 HRD HBW HZ1 HO1 hdn
    go_wp2_with fail
    refine CT.out.mono ?_
    rintro e w3 ⟨rfl, hrd3, hg3⟩
    have ST3 := hide (ST.out.take hg3 hrd3)
    clear CT hrd3 hg3 ST
    have hcr := (rt_range (s0X zs) (by rw [HS0.out]; exact fun z hz => HBR.out z (List.mem_of_mem_drop hz))).1
    have HB3 := hide (show ByteL (s1X zs).1 from (rt_range (s0X zs) (by rw [HS0.out]; exact fun z hz => HBR.out z (List.mem_of_mem_drop hz))).2)
    have HL3 := hide (show (s1X zs).1.length ≤ 1000000 from Nat.le_trans (rt_len (s0X zs)) (by rw [HS0.out]; simp; omega))
    have HCX := hide (show (rt (s0X zs)).1 = cX zs from rfl)
    have HS1 := hide (show (rt (s0X zs)).2 = s1X zs from rfl)
    rw [HS1.out] at ST3
    rw [HCX.out] at hcr
    rw [HCX.out]
    clear HCX HS1 HS0
    have HFX := hide (show ∀ n, fX zs (n + 1) = fX zs n ++ [⟨nr (s1X zs) (2 * n), nr (s1X zs) (2 * n + 1)⟩] from fX_next zs)
    have HFW := hide (show ∀ n, ∀ x ∈ (fX zs n).map smF, x.wf from fun n x hx => by
      obtain ⟨f, hf, rfl⟩ := List.mem_map.1 hx
      obtain ⟨k, hk, rfl⟩ := List.mem_map.1 hf
      have h1 := sm_range (nr_range (s1X zs) HB3.out (2 * k)).1
      have h2 := sm_range (nr_range (s1X zs) HB3.out (2 * k + 1)).1
      unfold smF Fi.wf
      simp only
      omega)
    generalize s1X zs = s1 at *
    generalize hRR : w1.heap.size = R at *
    generalize hQQ : w2.heap.size = Q at *
    clear hRR hQQ
    obtain ⟨c, hc⟩ := Int.eq_ofNat_of_zero_le hcr.1
    have HC := hide hc
    rw [hc] at HOK HSM hcr
    simp only [Int.toNat_natCast] at HOK HSM
    rw [hc]
    by_cases hc40 : (c : Int) ≤ 40
    · have hcg : ¬ ((40 : Int) < (c : Int)) := by omega
      rw [show decide ((c : Int) ≤ 40) = true from decide_eq_true hc40, Bool.true_and] at HOK
      have HTK := hide (show ∀ (W : World) (s : List Int × Bool), Rdr W w.heap.size R s → s.1.length ≤ 1000000 → Calls Try.prog 42 #[.pointer (some ⟨R, 0, none⟩)] W fun e w' => e = .returned (.int .u64 (rt s).1) ∧ Rdr w' w.heap.size R (rt s).2 ∧ W.grownBy w' (some R) from fun W s h1 h2 => rdtake_any w.heap.size R s W h1 h2)
      have HLL := hide (show ∀ j, (stN s1 j).1.length ≤ 1000000 from fun j => Nat.le_trans (stN_len s1 j) HL3.out)
      have HNR := hide (fun j => nr_range s1 HB3.out j)
      clear hc
      go_wp2_with fail
      go_loopw [32] (fun s wr => ∃ i : Nat, i ≤ c ∧ s = .int .u64 i ∧ Hid (∃ a k, RS w R Q dd dn dc (d0.map sm) wr (stN s1 (2 * i)) #[.slice dd dn dc, .slice a i k, .int .i64 0, .int .u64 0, .int .u64 0, .int .u64 0, .int .u64 0] (.slice a i k) ((fX zs i).map smF))) (fun s _ => c - (intOf s).toNat)
      case atStart => exact ⟨0, by omega, rfl, hide ⟨none, 0, ST3.out⟩⟩
      case round =>
        obtain ⟨i, hi, rfl, hst⟩ := hrel
        obtain ⟨fa, fk, st⟩ := hst.out
        have S0 := hide st
        clear hst st ST3
        by_cases hlt : i < c
        · have C1 := hide (HTK.out wr _ S0.out.rd (HLL.out _))
          have hqi : (i : Int) < (c : Int) := by omega
          go_wp2_with fail
          refine C1.out.mono ?_
          rintro e w4 ⟨rfl, hrd4, hg4⟩
          have S4 := hide (S0.out.take hg4 hrd4)
          have HX1 := hide (show (rt (stN s1 (2 * i))).1 = nr s1 (2 * i) from rfl)
          have HX2 := hide (show (rt (stN s1 (2 * i))).2 = stN s1 (2 * i + 1) from rfl)
          rw [HX1.out]
          rw [HX2.out] at S4
          have C2 := hide (small_any (nr s1 (2 * i)) w4 (HNR.out _).1)
          clear C1 hrd4 hg4 S0 HX1 HX2
          go_wp2_with fail
          refine C2.out.mono ?_
          rintro e w5 ⟨rfl, hw5⟩
          subst hw5
          have C3 := hide (HTK.out w5.drew _ S4.out.drew.rd (HLL.out _))
          have q1 : w5.cell? ⟨Q, 1, none⟩ = some (.slice fa i fk) := S4.out.q.cell rfl
          have hQl : Q < w5.heap.size := S4.out.q.lt
          obtain ⟨lv, hlv⟩ : ∃ lv, sm (nr s1 (2 * i)) = lv := ⟨_, rfl⟩
          have HLV := hide hlv
          rw [hlv]
          obtain ⟨nm, hnm⟩ : ∃ nm, sm (nr s1 (2 * i + 1)) = nm := ⟨_, rfl⟩
          have HNM := hide hnm
          have HFN := hide (show (fX zs i).map smF ++ [⟨lv, nm⟩] = (fX zs (i + 1)).map smF from by rw [HFX.out, List.map_append, ← hlv, ← hnm]; rfl)
          have hl0 := sm_range (HNR.out (2 * i)).1
          have hl1' := sm_range (HNR.out (2 * i + 1)).1
          have HWF := hide (show Fi.wf ⟨lv, nm⟩ from by rw [← hlv, ← hnm]; unfold Fi.wf; simp only; omega)
          have HLE := hide (show ((fX zs i).map smF).length + 1 ≤ 3518437208883 from by rw [List.length_map, fX_len]; omega)
          have HL8 := hide (show ((fX zs (i + 1)).map smF).length = i + 1 from by rw [List.length_map, fX_len])
          have HWF8 := hide (show ∀ x ∈ (fX zs (i + 1)).map smF, x.wf from HFW.out (i + 1))
          clear C2 hlv hnm hl0 hl1'
          go_wp2_with fail
          go_region_law (first
            | (refine step_append_files rfl (.tmp 37) (.tmp 42) rfl (Q + 1) _ ((fX zs i).map smF) (by first | rfl | simp [Act.eval, Act.put]) HO7.out (some ⟨w7.heap.size, 0, none⟩) 1 1 [⟨lv, nm⟩] (by first | rfl | simp [Act.eval, Act.put]) HF7.out HLE.out HSZ7.out ?_; intro v8 w8 o8 g8 k8; have S8 := hide (S7.out.row g8 k8 o8); have o9 : OwnF w8 (Q + 1) v8 ((fX zs (i + 1)).map smF) := (HFN.out ▸ o8); obtain ⟨a8, c8, hv8, _, _, _⟩ := ownF_fs o9 HWF8.out; rw [HL8.out] at hv8; subst hv8; have q8 : w8.cell? ⟨Q, 1, none⟩ = some (.slice fa i fk) := S8.out.q.cell rfl; have f8 := S8.out.q.free 1; clear o8 g8 k8)
            | (go_simp; refine C3.out.mono ?_; rintro e w6 ⟨rfl, hrd6, hg6⟩; have S6 := hide (S4.out.drew.take hg6 hrd6); have C4 := hide (small_any _ w6 (HNR.out (2 * i + 1)).1); have q6 : w6.cell? ⟨Q, 1, none⟩ = some (.slice fa i fk) := S6.out.q.cell rfl; have hQ6 : Q < w6.heap.size := S6.out.q.lt; clear hrd6 hg6)
            | (go_simp; refine C4.out.mono ?_; rintro e w7 ⟨rfl, hw7⟩; subst hw7; rw [HNM.out]; have S7 := hide (S6.out.keep ((Below.refl _ w7).alloc (Nat.le_refl _) (Obj.cells #[.int .i64 lv, .int .i64 nm] 29))); have HO7 := hide S7.out.own; have HSZ7 := hide S7.out.sz; have HF7 := hide (fs_block HWF.out (fhpS w7 (Obj.cells #[.int .i64 lv, .int .i64 nm] 29) _ rfl))))
          all_goals
            clear q1 q6 C3 C4
            go_wp2
            go_roundw
            case rel => exact ⟨i + 1, by omega, by go_num, hide ⟨a8, c8, by have := S8.out.setq 1 (.slice a8 (i + 1) c8); rw [HFN.out] at this; exact this⟩⟩
            case measure => simp [intOf]; omega
        · obtain rfl : i = c := by omega
          have hqi : ¬ ((i : Int) < (i : Int)) := by omega
          have C0 := hide (HTK.out wr _ S0.out.rd (HLL.out _))
          go_wp2_with fail
          refine C0.out.mono ?_
          rintro e x1 ⟨rfl, hrd, hg⟩
          have T1 := hide (show RS w R Q dd dn dc (d0.map sm) x1 (stN s1 (2 * i + 1)) _ _ _ from S0.out.take hg hrd)
          rw [show (rt (stN s1 (2 * i))).1 = nr s1 (2 * i) from rfl]
          clear hrd hg C0 S0
          have q1 : x1.cell? ⟨Q, 2, none⟩ = some (.int .i64 0) := T1.out.q.cell rfl
          have f1 := T1.out.q.free 2
          have CS0 := hide (small_any (nr s1 (2 * i)) x1 (HNR.out _).1)
          go_wp2_with fail
          refine CS0.out.mono ?_
          rintro e x1b ⟨rfl, hx⟩
          subst hx
          clear CS0
          have S1 := hide (T1.out.setq 2 (.int .i64 (sm (nr s1 (2 * i)))))
          have C1 := hide (HTK.out _ _ S1.out.rd (HLL.out _))
          clear T1
          go_wp2_with fail
          refine C1.out.mono ?_
          rintro e x2 ⟨rfl, hrd, hg⟩
          have T2 := hide (show RS w R Q dd dn dc (d0.map sm) x2 (stN s1 (2 * i + 2)) _ _ _ from S1.out.take hg hrd)
          rw [show (rt (stN s1 (2 * i + 1))).1 = nr s1 (2 * i + 1) from rfl]
          clear hrd hg C1 S1
          have q2 : x2.cell? ⟨Q, 3, none⟩ = some (.int .u64 0) := T2.out.q.cell rfl
          have f2 := T2.out.q.free 3
          have S2 := hide (T2.out.setq 3 (.int .u64 (nr s1 (2 * i + 1))))
          have C2 := hide (HTK.out _ _ S2.out.rd (HLL.out _))
          clear T2
          go_wp2_with fail
          refine C2.out.mono ?_
          rintro e x3 ⟨rfl, hrd, hg⟩
          have T3 := hide (show RS w R Q dd dn dc (d0.map sm) x3 (stN s1 (2 * i + 3)) _ _ _ from S2.out.take hg hrd)
          rw [show (rt (stN s1 (2 * i + 2))).1 = nr s1 (2 * i + 2) from rfl]
          clear hrd hg C2 S2
          have q3 : x3.cell? ⟨Q, 4, none⟩ = some (.int .u64 0) := T3.out.q.cell rfl
          have f3 := T3.out.q.free 4
          have S3 := hide (T3.out.setq 4 (.int .u64 (nr s1 (2 * i + 2))))
          have C3 := hide (HTK.out _ _ S3.out.rd (HLL.out _))
          clear T3
          go_wp2_with fail
          refine C3.out.mono ?_
          rintro e x4 ⟨rfl, hrd, hg⟩
          have T4 := hide (show RS w R Q dd dn dc (d0.map sm) x4 (stN s1 (2 * i + 4)) _ _ _ from S3.out.take hg hrd)
          rw [show (rt (stN s1 (2 * i + 3))).1 = nr s1 (2 * i + 3) from rfl]
          clear hrd hg C3 S3
          have q4 : x4.cell? ⟨Q, 5, none⟩ = some (.int .u64 0) := T4.out.q.cell rfl
          have f4 := T4.out.q.free 5
          have S4 := hide (T4.out.setq 5 (.int .u64 (nr s1 (2 * i + 3))))
          have C4 := hide (HTK.out _ _ S4.out.rd (HLL.out _))
          clear T4
          go_wp2_with fail
          refine C4.out.mono ?_
          rintro e x5 ⟨rfl, hrd, hg⟩
          have T5 := hide (show RS w R Q dd dn dc (d0.map sm) x5 (stN s1 (2 * i + 5)) _ _ _ from S4.out.take hg hrd)
          rw [show (rt (stN s1 (2 * i + 4))).1 = nr s1 (2 * i + 4) from rfl]
          clear hrd hg C4 S4
          have q5 : x5.cell? ⟨Q, 6, none⟩ = some (.int .u64 0) := T5.out.q.cell rfl
          have f5 := T5.out.q.free 6
          have S5 := hide (T5.out.setq 6 (.int .u64 (nr s1 (2 * i + 4))))
          have SF := hide (show RS w R Q dd dn dc (d0.map sm) (x5.setCell ⟨Q, 6, none⟩ (.int .u64 (nr s1 (2 * i + 4)))) (stN s1 (2 * i + 5)) #[.slice dd dn dc, .slice fa i fk, .int .i64 (sm (nr s1 (2 * i))), .int .u64 (nr s1 (2 * i + 1)), .int .u64 (nr s1 (2 * i + 2)), .int .u64 (nr s1 (2 * i + 3)), .int .u64 (nr s1 (2 * i + 4))] (.slice fa i fk) ((fX zs i).map smF) from S5.out)
          clear T5 S5
          obtain ⟨la, ln, lc, hekR, hbsR, hlc, _, _⟩ := SF.out.rd
          have hlnl := hbsR.1
          obtain ⟨rf, hrf⟩ : ∃ rf, (stN s1 (2 * i + 5)).2 = rf := ⟨_, rfl⟩
          rw [hrf] at HOK hekR
          simp only [hlnl] at HOK
          have HEKR := hide hekR
          have HZF := hide SF.out.z
          have HBF := hide SF.out.bel
          clear hbsR hekR hrf hlc HTK HLL q1 f1 q2 f2 q3 f3 q4 f4
          have r1 : (x5.setCell ⟨Q, 6, none⟩ (.int .u64 (nr s1 (2 * i + 4)))).cell? ⟨R, 1, none⟩ = some (.bool rf) := HEKR.out.cell rfl
          have r0 : (x5.setCell ⟨Q, 6, none⟩ (.int .u64 (nr s1 (2 * i + 4)))).cell? ⟨R, 0, none⟩ = some (.slice la ln lc) := HEKR.out.cell rfl
          have z0 : (x5.setCell ⟨Q, 6, none⟩ (.int .u64 (nr s1 (2 * i + 4)))).cell? ⟨w.heap.size, 0, none⟩ = some (.slice none 0 0) := (HZF.out).cell rfl
          have y0 : (x5.setCell ⟨Q, 6, none⟩ (.int .u64 (nr s1 (2 * i + 4)))).frozen? ⟨w.heap.size, 0, none⟩ = false := (HZF.out).free 0
          have z1 : (x5.setCell ⟨Q, 6, none⟩ (.int .u64 (nr s1 (2 * i + 4)))).cell? ⟨w.heap.size, 1, none⟩ = some (.slice none 0 0) := (HZF.out).cell rfl
          have y1 : (x5.setCell ⟨Q, 6, none⟩ (.int .u64 (nr s1 (2 * i + 4)))).frozen? ⟨w.heap.size, 1, none⟩ = false := (HZF.out).free 1
          have z2 : (x5.setCell ⟨Q, 6, none⟩ (.int .u64 (nr s1 (2 * i + 4)))).cell? ⟨w.heap.size, 2, none⟩ = some (.int .i64 0) := (HZF.out).cell rfl
          have y2 : (x5.setCell ⟨Q, 6, none⟩ (.int .u64 (nr s1 (2 * i + 4)))).frozen? ⟨w.heap.size, 2, none⟩ = false := (HZF.out).free 2
          have z3 : (x5.setCell ⟨Q, 6, none⟩ (.int .u64 (nr s1 (2 * i + 4)))).cell? ⟨w.heap.size, 3, none⟩ = some (.int .u64 0) := (HZF.out).cell rfl
          have y3 : (x5.setCell ⟨Q, 6, none⟩ (.int .u64 (nr s1 (2 * i + 4)))).frozen? ⟨w.heap.size, 3, none⟩ = false := (HZF.out).free 3
          have z4 : (x5.setCell ⟨Q, 6, none⟩ (.int .u64 (nr s1 (2 * i + 4)))).cell? ⟨w.heap.size, 4, none⟩ = some (.int .u64 0) := (HZF.out).cell rfl
          have y4 : (x5.setCell ⟨Q, 6, none⟩ (.int .u64 (nr s1 (2 * i + 4)))).frozen? ⟨w.heap.size, 4, none⟩ = false := (HZF.out).free 4
          have z5 : (x5.setCell ⟨Q, 6, none⟩ (.int .u64 (nr s1 (2 * i + 4)))).cell? ⟨w.heap.size, 5, none⟩ = some (.int .u64 0) := (HZF.out).cell rfl
          have y5 : (x5.setCell ⟨Q, 6, none⟩ (.int .u64 (nr s1 (2 * i + 4)))).frozen? ⟨w.heap.size, 5, none⟩ = false := (HZF.out).free 5
          have z6 : (x5.setCell ⟨Q, 6, none⟩ (.int .u64 (nr s1 (2 * i + 4)))).cell? ⟨w.heap.size, 6, none⟩ = some (.int .u64 0) := (HZF.out).cell rfl
          have y6 : (x5.setCell ⟨Q, 6, none⟩ (.int .u64 (nr s1 (2 * i + 4)))).frozen? ⟨w.heap.size, 6, none⟩ = false := (HZF.out).free 6
          have e0 : (x5.setCell ⟨Q, 6, none⟩ (.int .u64 (nr s1 (2 * i + 4)))).cell? ⟨Q, 0, none⟩ = some (.slice dd dn dc) := SF.out.q.cell rfl
          have e1 : (x5.setCell ⟨Q, 6, none⟩ (.int .u64 (nr s1 (2 * i + 4)))).cell? ⟨Q, 1, none⟩ = some (.slice fa i fk) := SF.out.q.cell rfl
          have e2 : (x5.setCell ⟨Q, 6, none⟩ (.int .u64 (nr s1 (2 * i + 4)))).cell? ⟨Q, 2, none⟩ = some (.int .i64 (sm (nr s1 (2 * i)))) := SF.out.q.cell rfl
          have e3 : (x5.setCell ⟨Q, 6, none⟩ (.int .u64 (nr s1 (2 * i + 4)))).cell? ⟨Q, 3, none⟩ = some (.int .u64 (nr s1 (2 * i + 1))) := SF.out.q.cell rfl
          have e4 : (x5.setCell ⟨Q, 6, none⟩ (.int .u64 (nr s1 (2 * i + 4)))).cell? ⟨Q, 4, none⟩ = some (.int .u64 (nr s1 (2 * i + 2))) := SF.out.q.cell rfl
          have e5 : (x5.setCell ⟨Q, 6, none⟩ (.int .u64 (nr s1 (2 * i + 4)))).cell? ⟨Q, 5, none⟩ = some (.int .u64 (nr s1 (2 * i + 3))) := SF.out.q.cell rfl
          have e6 : (x5.setCell ⟨Q, 6, none⟩ (.int .u64 (nr s1 (2 * i + 4)))).cell? ⟨Q, 6, none⟩ = some (.int .u64 (nr s1 (2 * i + 4))) := SF.out.q.cell rfl
          have hQF := SF.out.q.lt
          have CM := hide (show ∀ x, x = (x5.setCell ⟨Q, 6, none⟩ (.int .u64 (nr s1 (2 * i + 4)))) → Calls Try.prog 29 #[.agg #[.slice dd dn dc, .slice fa i fk, .int .i64 (sm (nr s1 (2 * i))), .int .u64 (nr s1 (2 * i + 1)), .int .u64 (nr s1 (2 * i + 2)), .int .u64 (nr s1 (2 * i + 3)), .int .u64 (nr s1 (2 * i + 4))]] x fun e w' => e = .returned (.bool (mayB ⟨d0.map sm, (fX zs i).map smF, sm (nr s1 (2 * i)), nr s1 (2 * i + 1), nr s1 (2 * i + 2), nr s1 (2 * i + 3), nr s1 (2 * i + 4)⟩)) ∧ Below x.heap.size x w' from fun x hx => by
            subst hx
            have hfs := ownF_fsN SF.out.own (HFW.out i) (by rw [List.length_map, fX_len])
            exact maybe_any dd dn dc fa i fk ⟨d0.map sm, (fX zs i).map smF, sm (nr s1 (2 * i)), nr s1 (2 * i + 1), nr s1 (2 * i + 2), nr s1 (2 * i + 3), nr s1 (2 * i + 4)⟩ _ SF.out.zs hfs.2 (by have := HDN.out; rw [List.length_map] at this; omega) (by omega))
          have HOW := hide SF.out.own
          have HZS := hide SF.out.zs
          have HZB := hide SF.out.zb
          have HRQ := hide SF.out.rq
          have HQF := hide SF.out.q
          clear SF
          cases rf with
          | true =>
            have HN := hide (HRN.out (by rw [HRF.out, HOK.out]; rfl))
            clear HRF HOK HSM HRN HRS CM HOW HZS HZB HFX HFW HNR
            go_wp2
            have HZ7 := eset7 (HZF.out) (.slice none 0 0) (.slice none 0 0) (.int .i64 0) (.int .u64 0) (.int .u64 0) (.int .u64 0) (.int .u64 0)
            refine bodyPost_ret (read_results (e := 3) HZ7 _ rfl rfl) rfl ?_
            exact HN.out _ ((HBF.out).grown (gset7 _ w.heap.size _ _ _ _ _ _ _) (HBF.out).size (fun k hk => by have : w.heap.size = k := Option.some.inj hk; omega))
          | false =>
            by_cases hln : ln = 0
            · subst hln
              have hq0 : ¬ ((0 : Int) < ((0 : Nat) : Int)) := by omega
              go_wp2_with fail
              refine (CM.out _ rfl).mono ?_
              rintro e y ⟨rfl, hby⟩
              have HZY := hide (HZF.out.below hby HZF.out.lt)
              have HBY := hide (HBF.out.trans (hby.mono HBF.out.size))
              have HQY := hide (HQF.out.below hby HQF.out.lt)
              have HOY := hide (ownF_keep HOW.out hby)
              have HSY := hide (HZS.out.below hby (Nat.le_refl _))
              obtain ⟨om, hom⟩ : ∃ om, mayB ⟨d0.map sm, (fX zs i).map smF, sm (nr s1 (2 * i)), nr s1 (2 * i + 1), nr s1 (2 * i + 2), nr s1 (2 * i + 3), nr s1 (2 * i + 4)⟩ = om := ⟨_, rfl⟩
              have HOM := hide hom
              rw [hom]
              clear hom CM hby r0 r1 HEKR z0 z1 z2 z3 z4 z5 z6 y0 y1 y2 y3 y4 y5 y6 e0 e1 e2 e3 e4 e5 e6 hQF
              have z0 : y.cell? ⟨w.heap.size, 0, none⟩ = some (.slice none 0 0) := (HZY.out).cell rfl
              have y0 : y.frozen? ⟨w.heap.size, 0, none⟩ = false := (HZY.out).free 0
              have z1 : y.cell? ⟨w.heap.size, 1, none⟩ = some (.slice none 0 0) := (HZY.out).cell rfl
              have y1 : y.frozen? ⟨w.heap.size, 1, none⟩ = false := (HZY.out).free 1
              have z2 : y.cell? ⟨w.heap.size, 2, none⟩ = some (.int .i64 0) := (HZY.out).cell rfl
              have y2 : y.frozen? ⟨w.heap.size, 2, none⟩ = false := (HZY.out).free 2
              have z3 : y.cell? ⟨w.heap.size, 3, none⟩ = some (.int .u64 0) := (HZY.out).cell rfl
              have y3 : y.frozen? ⟨w.heap.size, 3, none⟩ = false := (HZY.out).free 3
              have z4 : y.cell? ⟨w.heap.size, 4, none⟩ = some (.int .u64 0) := (HZY.out).cell rfl
              have y4 : y.frozen? ⟨w.heap.size, 4, none⟩ = false := (HZY.out).free 4
              have z5 : y.cell? ⟨w.heap.size, 5, none⟩ = some (.int .u64 0) := (HZY.out).cell rfl
              have y5 : y.frozen? ⟨w.heap.size, 5, none⟩ = false := (HZY.out).free 5
              have z6 : y.cell? ⟨w.heap.size, 6, none⟩ = some (.int .u64 0) := (HZY.out).cell rfl
              have y6 : y.frozen? ⟨w.heap.size, 6, none⟩ = false := (HZY.out).free 6
              cases om with
              | false =>
                have HN := hide (HRN.out (by rw [HRF.out, HSM.out, HOM.out, Bool.and_false]; rfl))
                clear HRF HOK HSM HRN HRS
                go_wp2
                have HZ7 := eset7 (HZY.out) (.slice none 0 0) (.slice none 0 0) (.int .i64 0) (.int .u64 0) (.int .u64 0) (.int .u64 0) (.int .u64 0)
                refine bodyPost_ret (read_results (e := 3) HZ7 _ rfl rfl) rfl ?_
                exact HN.out _ ((HBY.out).grown (gset7 _ w.heap.size _ _ _ _ _ _ _) (HBY.out).size (fun k hk => by have : w.heap.size = k := Option.some.inj hk; omega))
              | true =>
                have hred : red zs = some ⟨d0.map sm, (fX zs i).map smF, sm (nr s1 (2 * i)), nr s1 (2 * i + 1), nr s1 (2 * i + 2), nr s1 (2 * i + 3), nr s1 (2 * i + 4)⟩ := by rw [HRF.out, HSM.out, HOK.out, HOM.out]; rfl
                have HRED := hide hred
                have e0 : y.cell? ⟨Q, 0, none⟩ = some (.slice dd dn dc) := HQY.out.cell rfl
                have e1 : y.cell? ⟨Q, 1, none⟩ = some (.slice fa i fk) := HQY.out.cell rfl
                have e2 : y.cell? ⟨Q, 2, none⟩ = some (.int .i64 (sm (nr s1 (2 * i)))) := HQY.out.cell rfl
                have e3 : y.cell? ⟨Q, 3, none⟩ = some (.int .u64 (nr s1 (2 * i + 1))) := HQY.out.cell rfl
                have e4 : y.cell? ⟨Q, 4, none⟩ = some (.int .u64 (nr s1 (2 * i + 2))) := HQY.out.cell rfl
                have e5 : y.cell? ⟨Q, 5, none⟩ = some (.int .u64 (nr s1 (2 * i + 3))) := HQY.out.cell rfl
                have e6 : y.cell? ⟨Q, 6, none⟩ = some (.int .u64 (nr s1 (2 * i + 4))) := HQY.out.cell rfl
                clear HRF HOK HSM HRN hred
                go_wp2
                have HZ7 := eset7 HZY.out (.slice dd dn dc) (.slice fa i fk) (.int .i64 (sm (nr s1 (2 * i)))) (.int .u64 (nr s1 (2 * i + 1))) (.int .u64 (nr s1 (2 * i + 2))) (.int .u64 (nr s1 (2 * i + 3))) (.int .u64 (nr s1 (2 * i + 4)))
                refine bodyPost_ret (read_results (e := 0) HZ7 _ rfl rfl) rfl ?_
                have hg := gset7 y w.heap.size (.slice dd dn dc) (.slice fa i fk) (.int .i64 (sm (nr s1 (2 * i)))) (.int .u64 (nr s1 (2 * i + 1))) (.int .u64 (nr s1 (2 * i + 2))) (.int .u64 (nr s1 (2 * i + 3))) (.int .u64 (nr s1 (2 * i + 4)))
                have hfl : ((fX zs i).map smF).length = i := by rw [List.length_map, fX_len]
                have hrq := HRQ.out
                have hres := HRS.out ⟨d0.map sm, (fX zs i).map smF, sm (nr s1 (2 * i)), nr s1 (2 * i + 1), nr s1 (2 * i + 2), nr s1 (2 * i + 3), nr s1 (2 * i + 4)⟩ _ dd dc fa fk HRED.out (by
                  show Zs _ dd (d0.map sm).length dc (d0.map sm)
                  rw [HDN.out]
                  exact HSY.out.gb hg (fun a ha e => by
                    have h1 : a.block = w.heap.size := Option.some.inj e
                    have := HZB.out a ha
                    omega)) (by
                  show Fs _ fa ((fX zs i).map smF).length fk ((fX zs i).map smF)
                  rw [hfl]
                  exact (ownF_fsN (ownF_grown HOY.out hg (fun k hk => by have : w.heap.size = k := Option.some.inj hk; omega)) (HFW.out i) hfl).2) (HBY.out.grown hg HBY.out.size (fun k hk => by have : w.heap.size = k := Option.some.inj hk; omega))
                simp only at hres
                rw [HDN.out, hfl] at hres
                exact hres
            · have hq0 : (0 : Int) < (ln : Int) := by omega
              have HN := hide (HRN.out (by rw [HRF.out, HOK.out, show decide (ln = 0) = false from decide_eq_false hln]; rfl))
              clear HRF HOK HSM HRN HRS CM HOW HZS HZB HFX HFW HNR hln
              go_wp2
              have HZ7 := eset7 (HZF.out) (.slice none 0 0) (.slice none 0 0) (.int .i64 0) (.int .u64 0) (.int .u64 0) (.int .u64 0) (.int .u64 0)
              refine bodyPost_ret (read_results (e := 3) HZ7 _ rfl rfl) rfl ?_
              exact HN.out _ ((HBF.out).grown (gset7 _ w.heap.size _ _ _ _ _ _ _) (HBF.out).size (fun k hk => by have : w.heap.size = k := Option.some.inj hk; omega))
    · have hcg : (40 : Int) < (c : Int) := by omega
      have HN := hide (HRN.out (by rw [HRF.out, HOK.out, show decide ((c : Int) ≤ 40) = false from decide_eq_false hc40]; rfl))
      have HZ3 := hide ST3.out.z
      have HB3' := hide ST3.out.bel
      have z0 : w3.cell? ⟨w.heap.size, 0, none⟩ = some (.slice none 0 0) := (HZ3.out).cell rfl
      have y0 : w3.frozen? ⟨w.heap.size, 0, none⟩ = false := (HZ3.out).free 0
      have z1 : w3.cell? ⟨w.heap.size, 1, none⟩ = some (.slice none 0 0) := (HZ3.out).cell rfl
      have y1 : w3.frozen? ⟨w.heap.size, 1, none⟩ = false := (HZ3.out).free 1
      have z2 : w3.cell? ⟨w.heap.size, 2, none⟩ = some (.int .i64 0) := (HZ3.out).cell rfl
      have y2 : w3.frozen? ⟨w.heap.size, 2, none⟩ = false := (HZ3.out).free 2
      have z3 : w3.cell? ⟨w.heap.size, 3, none⟩ = some (.int .u64 0) := (HZ3.out).cell rfl
      have y3 : w3.frozen? ⟨w.heap.size, 3, none⟩ = false := (HZ3.out).free 3
      have z4 : w3.cell? ⟨w.heap.size, 4, none⟩ = some (.int .u64 0) := (HZ3.out).cell rfl
      have y4 : w3.frozen? ⟨w.heap.size, 4, none⟩ = false := (HZ3.out).free 4
      have z5 : w3.cell? ⟨w.heap.size, 5, none⟩ = some (.int .u64 0) := (HZ3.out).cell rfl
      have y5 : w3.frozen? ⟨w.heap.size, 5, none⟩ = false := (HZ3.out).free 5
      have z6 : w3.cell? ⟨w.heap.size, 6, none⟩ = some (.int .u64 0) := (HZ3.out).cell rfl
      have y6 : w3.frozen? ⟨w.heap.size, 6, none⟩ = false := (HZ3.out).free 6
      clear HRF HOK HSM HRN HRS ST3 hc40
      go_wp2
      have HZ7 := eset7 (HZ3.out) (.slice none 0 0) (.slice none 0 0) (.int .i64 0) (.int .u64 0) (.int .u64 0) (.int .u64 0) (.int .u64 0)
      refine bodyPost_ret (read_results (e := 3) HZ7 _ rfl rfl) rfl ?_
      exact HN.out _ ((HB3'.out).grown (gset7 _ w.heap.size _ _ _ _ _ _ _) (HB3'.out).size (fun k hk => by have : w.heap.size = k := Option.some.inj hk; omega))
  · have HN := hide (HRN.out (by rw [HRF.out, HOK.out, show decide (er = 0) = false from decide_eq_false her]; rfl))
    have q : (er != 0) = true := by simpa using her
    have z0 : w1.cell? ⟨w.heap.size, 0, none⟩ = some (.slice none 0 0) := HZ1.out.cell rfl
    have y0 := HZ1.out.free 0
    have z1 : w1.cell? ⟨w.heap.size, 1, none⟩ = some (.slice none 0 0) := HZ1.out.cell rfl
    have y1 := HZ1.out.free 1
    have z2 : w1.cell? ⟨w.heap.size, 2, none⟩ = some (.int .i64 0) := HZ1.out.cell rfl
    have y2 := HZ1.out.free 2
    have z3 : w1.cell? ⟨w.heap.size, 3, none⟩ = some (.int .u64 0) := HZ1.out.cell rfl
    have y3 := HZ1.out.free 3
    have z4 : w1.cell? ⟨w.heap.size, 4, none⟩ = some (.int .u64 0) := HZ1.out.cell rfl
    have y4 := HZ1.out.free 4
    have z5 : w1.cell? ⟨w.heap.size, 5, none⟩ = some (.int .u64 0) := HZ1.out.cell rfl
    have y5 := HZ1.out.free 5
    have z6 : w1.cell? ⟨w.heap.size, 6, none⟩ = some (.int .u64 0) := HZ1.out.cell rfl
    have y6 := HZ1.out.free 6
    clear HRF HOK HUP HUN HSM HS0 HRN her
    have HRN := HN
    go_wp2
    have HZ7 := eset7 (HZ1.out) (.slice none 0 0) (.slice none 0 0) (.int .i64 0) (.int .u64 0) (.int .u64 0) (.int .u64 0) (.int .u64 0)
    refine bodyPost_ret (read_results (e := 3) HZ7 _ rfl rfl) rfl ?_
    exact HRN.out _ ((HB1.out).grown (gset7 _ w.heap.size _ _ _ _ _ _ _) (HB1.out).size (fun k hk => by have : w.heap.size = k := Option.some.inj hk; omega))
end

end Go.Proofs.Ytgopcaemgcnapaa.Clep
