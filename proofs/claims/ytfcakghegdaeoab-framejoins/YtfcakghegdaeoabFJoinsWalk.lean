/- FrameJoins, walked: it answers true. For any bodies, any one to begin with. -/
import Derived.Test.YtfcakghegdaeoabFCutsWalk
namespace Go.Proofs.Ytfcakghegdaeoab.Clep
open Go.RowKit
set_option linter.unusedVariables false

theorem SP_drop (zss : List (List Int)) (m K : Nat) (hok : okb zss m) (hb : ∀ i, i < m → ByteL (zss.getD i [])) (hK : K ≤ m) :
    en zss K ≤ en zss m ∧ SP ((rws zss m).drop (en zss K)) = ((fl zss m).drop K, en zss m - en zss K, 0) := by
  obtain ⟨r, hr, -⟩ := rws_split zss K (m - K)
  rw [show K + (m - K) = m from by omega] at hr
  have h1 := SP_rws zss m hok hb m [] (Nat.le_refl _)
  have h2 := SP_rws zss m hok hb K r hK
  rw [← hr] at h2
  rw [List.append_nil, h2, SP_nil] at h1
  simp only [Prod.mk.injEq, List.append_nil] at h1
  obtain ⟨e1, e2, e3⟩ := h1
  have hd : (rws zss m).drop (en zss K) = r := by rw [hr]; exact drop_app _ _ _ rfl
  refine ⟨by omega, ?_⟩
  rw [hd]
  refine Prod.ext ?_ (Prod.ext ?_ ?_)
  · show (SP r).1 = (fl zss m).drop K
    rw [← e1, List.drop_append_of_le_length (by rw [fl_len]; exact Nat.le_refl _), List.drop_eq_nil_of_le (by rw [fl_len]; exact Nat.le_refl _), List.nil_append]
  · show (SP r).2.1 = en zss m - en zss K
    omega
  · exact e3
theorem fl_get (zss : List (List Int)) (m K i : Nat) (h : K + i < m) : ((fl zss m).drop K).getD i (0, []) = (kn (K + i), zss.getD (K + i) []) := by
  simp [fl, List.getD, h]

attribute [local go_sem ↓] cut_l

set_option maxHeartbeats 800000 in
theorem fjoins_walk (ao : Option Addr) (len cap : Nat) (zss : List (List Int)) (x : Int) (w : World) (h : Bss w ao len cap zss) (hm : len ≤ 9223372036854775807) :
    Calls Try.prog 4 #[.slice ao len cap, .int .i64 x] w fun e w' => e = .returned (.bool true) ∧ Below w.heap.size w w' := by
  obtain ⟨m, hmm⟩ : ∃ m, m = min len 10 := ⟨_, rfl⟩
  have HBY := hide (fun i (hi : i < m) => h.each i (by omega))
  have cM := hide (made_any ao len cap zss 10 m w hm (by omega) hmm h)
  have hm8 : m ≤ 10 := by omega
  have hml : m ≤ len := by omega
  have H := hide (fun W (hW : Below w.heap.size w W) => h.below hW (Nat.le_refl _))
  clear h hmm
  go_enter Try.func4, Try.ntmps4
  go_wp2_with fail
  refine cM.out.mono ?_
  rintro e w1 ⟨hb1, ⟨hok, g, c, rfl, hcl⟩ | ⟨hno, rfl⟩⟩
  · have HB1 := hide hb1
    have HOK := hide hok
    have HCL := hide (fun i (hi : i ≤ m) W (hW : Below w1.heap.size w1 W) => (hW.cell (p := ⟨g, i, none⟩) (World.block_lt_of_cell? w1 _ (hcl i hi))).trans (hcl i hi))
    have HRR := hide (rws_range zss m hok HBY.out)
    have HEL := hide (en_le zss m hok)
    have hsz : (strOfNums (rws zss m)).size = en zss m := str_size _
    obtain ⟨K, hK, hKl⟩ := place_of x 255 (by decide) ((m : Int) + 1) (m + 1) (by omega) (by omega)
    rw [show (((255 : Nat) : Int)) = 255 from rfl] at hK
    clear hb1 hok hcl cM
    go_wp2_with fail
    go_loopw [8, 9] (fun v i wr => ∃ (j : Nat) (a : Option Addr) (cc : Nat), i = .int .i64 j ∧ v = .slice a (en zss j) cc ∧ j ≤ m ∧ Hid (Bs wr a (en zss j) cc (rws zss j)) ∧ Hid (Below w1.heap.size w1 wr)) (fun _ i _ => m - (intOf i).toNat)
    case atStart => exact ⟨0, none, 0, rfl, rfl, by omega, hide (bs_nil _), hide (Below.refl _ _)⟩
    case round =>
      obtain ⟨j, a, cc, rfl, rfl, hj, hbs, hbel⟩ := hrel
      have hej := HEL.out j hj
      have HBw := hide (HB1.out.trans (hbel.out.mono HB1.out.size))
      by_cases hlt : j < m
      · obtain ⟨b0, off0, rfl, hcell⟩ := (H.out _ HBw.out).2.2 (by omega)
        obtain ⟨a2, l2, c2, hc1, hl1, hbs2⟩ := hcell j (by omega)
        have h300 := HOK.out j hlt
        have hl2 := hbs2.1
        have hks := kn_int j
        have cP := hide (fput_any a a2 (en zss j) cc l2 c2 (rws zss j) (zss.getD j []) (kn j) wr (kn_range j).1 (kn_range j).2 (by omega) (by omega) hbs.out hbs2)
        rw [show rws zss j ++ fr (kn j) (zss.getD j []) = rws zss (j + 1) from rfl] at cP
        have hce := HCL.out (j + 1) (by omega)
        clear hcell hbs2
        generalize hk1 : kn j = k at *
        go_wp2_with fail
        refine cP.out.mono ?_
        rintro e w2 ⟨v2, rfl, ho2, hb2⟩
        have hes := en_succ zss j
        obtain ⟨g2, cc2, rfl, -, -, hbs2⟩ := own_at ho2 (HRR.out (j + 1) (by omega)) (en zss (j + 1)) rfl (by omega)
        have hB2 := hbel.out.trans (hb2.mono hbel.out.size)
        have hcx := hce w2 hB2
        have HB2 := hide hB2
        have HS2 := hide hbs2
        clear ho2 hb2 hB2 hbs2 cP hce hes
        go_wp2
        go_roundw
        case rel => exact ⟨j + 1, _, _, by go_num, rfl, by omega, HS2, HB2⟩
        case measure => simp [intOf]; omega
      · have h8 : j = m := by omega
        subst h8
        obtain ⟨hEK, hSP⟩ := SP_drop zss j K HOK.out HBY.out (by omega)
        obtain ⟨D, hD⟩ : ∃ D, j = K + D := ⟨j - K, by omega⟩
        obtain ⟨E, hE⟩ : ∃ E, en zss j = en zss K + E := ⟨en zss j - en zss K, by omega⟩
        have hbsc := hbs.out.cut (en zss K) (en zss j) hEK (Nat.le_refl _)
        rw [List.take_of_length_le (show (rws zss j).length ≤ en zss j from Nat.le_refl _), show en zss j - en zss K = E from by omega] at hbsc
        have cS := hide (fsplit_any (cut a cc (en zss K)) E (cc - en zss K) ((rws zss j).drop (en zss K)) wr (by omega) hbsc D (by rw [hSP, List.length_drop, fl_len]; omega))
        rw [hSP] at cS
        have hcK := HCL.out K (by omega)
        have hcK0 := hcK wr hbel.out
        have HCV := hide (fun W (hW : Below wr.heap.size wr W) => conv_bs (hbs.out.below hW (Nat.le_refl _)))
        have HFG := hide (fun i (hi : i < D) => fl_get zss j K i (by omega))
        have hsub : en zss j - en zss K = E := by omega
        rw [hsub] at cS
        have hDl : K + D ≤ len := by omega
        have hD8 : K + D ≤ 10 := by omega
        have HD := hide hD
        have hEs : (en zss j : Int) - (en zss K : Int) = (E : Int) := by omega
        have hDs : (j : Int) - (K : Int) = (D : Int) := by omega
        have hEK0 : (0 : Int) ≤ (en zss K : Int) := by omega
        have hEK1 : (en zss K : Int) ≤ (en zss j : Int) := by omega
        have hEK2 : en zss j - en zss K = E := hsub
        clear hSP hbsc hE hD hsub
        generalize hSS : strOfNums (rws zss j) = SS at *
        generalize hej1 : en zss j = EJ at *
        generalize hek1 : en zss K = EK at *
        generalize hFF : (fl zss j).drop K = F at *
        clear hSS hej1 hek1 hFF HEL HRR
        go_wp2_with fail
        refine cS.out.mono ?_
        rintro e w3 ⟨Kb, Gb, rfl, hkc, hbss, hb3⟩
        have hB13 := hbel.out.trans (hb3.mono hbel.out.size)
        have hcK3 := hcK w3 hB13
        have hcv3 := HCV.out w3 hb3
        have HKC := hide hkc
        have HBS := hide hbss
        have HB3 := hide (HB1.out.trans (hB13.mono HB1.out.size))
        clear hkc hbss hB13 hb3 HCV cS hcK hcK0
        go_wp2_with fail
        go_loopw [17] (fun u wq => ∃ i : Nat, u = .int .i64 i ∧ i ≤ D ∧ Hid (Below w3.heap.size w3 wq)) (fun u _ => D - (intOf u).toNat)
        case atStart => exact ⟨0, rfl, by omega, hide (Below.refl _ _)⟩
        case round =>
          rename_i wq0
          obtain ⟨i, rfl, hi, hbq⟩ := hrel
          by_cases hlt2 : i < D
          · have HB5 := hide (HB3.out.trans (hbq.out.mono HB3.out.size))
            obtain ⟨b1, off1, hx1, hcell1⟩ := (HBS.out.below hbq.out (Nat.le_refl _)).2.2 (by omega)
            cases hx1
            obtain ⟨a5, l5, c5, hc5, hl5, hbs5⟩ := hcell1 i hlt2
            rw [Nat.zero_add] at hc5
            obtain ⟨b0, off0, rfl, hcell0⟩ := (H.out _ HB5.out).2.2 (by omega)
            obtain ⟨a6, l6, c6, hc6, hl6, hbs6⟩ := hcell0 (K + i) (by omega)
            have hk7 := (hbq.out.cell (p := ⟨Kb, i, none⟩) (World.block_lt_of_cell? w3 _ (HKC.out i hlt2))).trans (HKC.out i hlt2)
            have hfg := HFG.out i hlt2
            rw [hfg] at hk7
            have hll := HBS.out.1
            rw [List.length_map] at hll
            rw [show (F.map Prod.snd).getD i [] = zss.getD (K + i) [] from by
              have : (F.map Prod.snd).getD i [] = (F.getD i (0, [])).2 := by
                simp only [List.getD, List.getElem?_map, List.getElem?_eq_getElem (show i < F.length by omega), Option.map_some, Option.getD_some]
              rw [this, hfg]] at hbs5
            have v5 := conv_bs (hbs5.below (Below.refl _ _).drew (Nat.le_refl _))
            have v6 := conv_bs (hbs6.below (Below.refl _ _).drew (Nat.le_refl _))
            have hks := kn_int (K + i)
            rw [show ((K + i : Nat) : Int) = (K : Int) + (i : Int) from by omega] at hks
            clear hcell0 hcell1 hbs5 hbs6 hfg hll
            generalize strOfNums (zss.getD (K + i) []) = SB at *
            generalize hk1 : kn (K + i) = k at *
            clear hk1
            go_wp2_with fail
            go_region
            have HB6 := hide hbq.out.drew
            go_wp2
            go_roundw
            case rel => exact ⟨i + 1, by go_num, by omega, HB6⟩
            case measure => simp [intOf]; omega
          · have h9 : i = D := by omega
            subst h9
            go_wp2_with fail
            refine (awakeC_any _).mono ?_
            rintro e w4 ⟨rfl, hb4⟩
            have HB5 := hide (HB3.out.trans (hbq.out.mono HB3.out.size))
            have HB4 := hide (HB5.out.trans (hb4.mono HB5.out.size))
            clear hb4
            go_wp2
            go_ret
            exact ⟨rfl, HB4.out⟩
  · have HB1 := hide hb1
    clear hb1 cM hno
    go_wp2_with fail
    refine (awakeC_any _).mono ?_
    rintro e w2 ⟨rfl, hb2⟩
    have HB2 := hide (HB1.out.trans (hb2.mono HB1.out.size))
    clear hb2
    go_wp2
    go_ret
    exact ⟨rfl, HB2.out⟩

end Go.Proofs.Ytfcakghegdaeoab.Clep
