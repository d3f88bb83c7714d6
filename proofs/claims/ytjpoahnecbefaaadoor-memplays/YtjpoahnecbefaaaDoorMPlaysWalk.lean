/- MemPlays: batches are taken whole or not at all, walked. Conditions: the table of math/bits reads as its initialiser lays it. -/
import Derived.Test.YtjpoahnecbefaaaDoorMPlay
namespace Go.Proofs.YtjpoahnecbefaaaDoor.Clep
open Go.RowKit
set_option linter.unusedVariables false

set_option maxRecDepth 100000 in
set_option maxHeartbeats 8000000 in
theorem plays_any (a : Option Addr) (n c : Nat) (zs : List Sl) (freeze : Int) (w : World) (h : Rws w a n c zs) (hn : n ≤ 9223372036854775807) (hTb : Tab w) :
    Calls Tryd.prog 4 #[.slice a n c, .int .i64 freeze] w fun e w' => e = .returned (.bool true) ∧ Below w.heap.size w w' := by
  have hl := hide h.1
  have H0 := hide (fun W (hW : Below w.heap.size w W) => h.below hW (Nat.le_refl _))
  have HA := hide (fun z (hz : z ∈ zs) => (show 0 < z.n → ∀ x, z.a = some x → x.block < w.heap.size from fun hp x hx => (h.2.2.1 z hz).1.lt hp x hx))
  have hF := mand5 freeze
  obtain ⟨F, eF⟩ : ∃ F : Nat, bits .and .i64 freeze 31 = F := ⟨(bits .and .i64 freeze 31).toNat, by omega⟩
  have hF31 : F ≤ 31 := by omega
  have C1 := hide (mnew_h w)
  have T0 := hide hTb
  clear h hTb hF
  go_enter Tryd.func4, Tryd.ntmps4
  go_wp2_with fail
  refine C1.out.mono ?_
  rintro e w1 ⟨M, rfl, hm1, hb1⟩
  have P1 : Hid (Pm w w1 M false [] none 0 0 []) := hide ⟨⟨_, hm1, fun b hb => hb.1, fun hp => by omega⟩, is_nil _, hb1, T0.out.keep hb1, T0.out.lt⟩
  have AW := hide (mawake_any w1 P1.out.tab)
  clear hm1 hb1 C1 T0
  go_wp2_with fail
  refine AW.out.mono ?_
  rintro e w2 ⟨rfl, b2⟩
  have P2 := hide (P1.out.keep b2)
  clear b2 AW P1
  go_wp2_with fail
  go_loopw [6, 7] (fun s6 s7 wr => ∃ (i : Nat) (aw : Option Addr) (nw cw : Nat) (ws : List (It × Nat)), i ≤ n ∧ i ≤ 20 ∧ s7 = .int .i64 i ∧ s6 = .slice aw nw cw ∧ Hid (ws.length ≤ 60 * i) ∧ Hid (Pm w wr M (decide (F < i)) ws aw nw cw (ws.map Prod.fst))) (fun _ s7 _ => 20 - (intOf s7).toNat)
  case atStart => exact ⟨0, none, 0, 0, [], by omega, by omega, rfl, rfl, hide (by simp), hide (by simpa using P2.out)⟩
  case round =>
    obtain ⟨i, aw, nw, cw, ws, hi, hi20, rfl, rfl, hlw, hpm⟩ := hrel
    by_cases hlt : i < n ∧ i < 20
    · obtain ⟨hin, hi2⟩ := hlt
      obtain ⟨z, hz⟩ : ∃ z, zs[i]? = some z := ⟨_, List.getElem?_eq_getElem (by rw [hl.out]; exact hin)⟩
      have hAz := HA.out z (List.mem_of_getElem? hz)
      obtain ⟨b0, off0, ea, _⟩ := (H0.out _ hpm.out.bel).2.2.2 (by omega)
      subst ea
      have HC := hide (fun W (hW : Below w.heap.size w W) => (show W.cell? ⟨b0, off0 + i, none⟩ = some (.slice z.a z.n z.c) by
        obtain ⟨b1, off1, e1, hc1⟩ := (H0.out W hW).2.2.2 (by omega)
        cases e1
        exact hc1 i z hz))
      have HZ := hide (fun W (hW : Below w.heap.size w W) => ((H0.out W hW).2.2.1 z (List.mem_of_getElem? hz)).1)
      have hzb := ((H0.out _ hpm.out.bel).2.2.1 z (List.mem_of_getElem? hz)).2
      obtain ⟨az, nz, cz, l⟩ := z
      simp only at hAz HC HZ hzb
      have HAz := hide hAz
      have hlz : Hid (l.length = nz) := hide (HZ.out _ hpm.out.bel).1
      have hwn : Hid (ws.length = nw) := hide (by rw [← hpm.out.is.1, List.length_map])
      have hnw : nw ≤ 1200 := by have := hlw.out; have := hwn.out; omega
      have hin1 : (i : Int) < (n : Int) := by omega
      have hi21 : (i : Int) < 20 := by omega
      have hcell := HC.out _ hpm.out.bel
      clear hz hAz
      by_cases hz60 : 60 < nz
      · have h60 : (60 : Int) < (nz : Int) := by omega
        have BE := hide hpm.out.bel
        go_wp2
        go_ret
        exact ⟨rfl, BE.out⟩
      · have h60 : ¬ (60 : Int) < (nz : Int) := by omega
        have hnz : nz ≤ 60 := by omega
        clear hz60
        by_cases hFi : F = i
        · have hfe : ((F : Int) == (i : Int)) = true := by simp; omega
          have PF := hpm.out
          have CFz := hide (pm_freeze w wr M _ ws aw nw cw _ PF)
          have heq : (F : Int) = (i : Int) := by omega
          clear PF
          go_wp2_with fail
          refine CFz.out.mono ?_
          rintro e w3 ⟨rfl, p3⟩
          have P3 := hide p3
          clear p3 CFz hpm hcell
          have HP1 := hide P3.out
          go_wp2_with fail
          go_loopw [8, 9] (fun s8 s9 wr => ∃ (k : Nat) (q : Int), k ≤ nz ∧ s9 = .int .i64 k ∧ s8 = .int .i64 q ∧ Hid (q = if (l.take k).all It.ok then 0 else 1) ∧ Hid (Below w3.heap.size w3 wr)) (fun _ s9 _ => nz - (intOf s9).toNat)
          case atStart => exact ⟨0, 0, by omega, rfl, rfl, hide (by simp), hide (Below.refl _ _)⟩
          case round =>
            obtain ⟨k, q, hk, rfl, rfl, hq, hbel⟩ := hrel
            have hcell := HC.out _ (bmore HP1.out.bel hbel.out)
            by_cases hlt : k < nz
            · obtain ⟨bz, offz, ez, hcc⟩ := (HZ.out _ (bmore HP1.out.bel hbel.out)).2.2.2 (by omega)
              subst ez
              obtain ⟨x, hx⟩ : ∃ x, l[k]? = some x := ⟨_, List.getElem?_eq_getElem (by rw [hlz.out]; exact hlt)⟩
              have hv := hcc k x hx
              have hall := hide (show (l.take (k + 1)).all It.ok = ((l.take k).all It.ok && x.ok) by rw [List.take_add_one, hx, List.all_append]; simp)
              obtain ⟨xS, xK, xT, xV, xX⟩ := x
              unfold Vt Vi at hv
              simp only at hv
              obtain ⟨v0, v1, v2, v3, v4⟩ := hv
              obtain ⟨o, ho⟩ : ∃ o, okI xS xK xT xV xX = o := ⟨_, rfl⟩
              have HO := hide ho
              rw [show It.ok ⟨xS, xK, xT, xV, xX⟩ = o from ho] at hall
              have hk1 : (k : Int) < (nz : Int) := by omega
              clear hcc hx ho
              go_wp2_with fail
              refine (refok_any xS xK xT xV xX _).mono ?_
              rw [HO.out]
              rintro e w4 ⟨rfl, b4⟩
              have B4 := hide (bmore hbel.out b4)
              clear b4 v0 v1 v2 v3 v4 hcell
              cases o with
              | true =>
                have hq2 := hide (show q = if (l.take (k + 1)).all It.ok then 0 else 1 by rw [hall.out, Bool.and_true]; exact hq.out)
                go_wp2
                go_roundw
                case rel => first | exact ⟨k + 1, q, by omega, by go_num, rfl, hq2, B4⟩ | ((repeat apply Exists.intro); exact ⟨⟨k + 1, q, by omega, by go_num, rfl, hq2, B4⟩, rfl⟩)
                case measure => simp [intOf]; omega
              | false =>
                have hq2 := hide (show (1 : Int) = if (l.take (k + 1)).all It.ok then 0 else 1 by rw [hall.out, Bool.and_false]; rfl)
                go_wp2
                go_roundw
                case rel => first | exact ⟨k + 1, 1, by omega, by go_num, rfl, hq2, B4⟩ | ((repeat apply Exists.intro); exact ⟨⟨k + 1, 1, by omega, by go_num, rfl, hq2, B4⟩, rfl⟩)
                case measure => simp [intOf]; omega
            · have hq2 := hq.out
              rw [List.take_of_length_le (by rw [hlz.out]; omega)] at hq2
              have hk1 : ¬ (k : Int) < (nz : Int) := by omega
              have P5 := hide (HP1.out.keep hbel.out)
              have IZ := hide (HZ.out _ P5.out.bel)
              clear hq hbel
              have hE : applyE true l = 14 := rfl
              have CA := hide (pm_apply w wr M true ws aw nw cw _ P5.out az nz cz l IZ.out (by omega) (by have := hwn.out; omega) HAz.out 14 hE ws rfl)
              clear hE hq2
              have hfi : (F : Int) ≤ (i : Int) := by omega
              have hfd : decide ((F : Int) ≤ (i : Int)) = true := by simp; omega
              go_wp2_with fail
              refine CA.out.mono ?_
              rintro e w5 ⟨rfl, p5⟩
              have P6 := hide p5
              have hcell5 := HC.out _ p5.bel
              clear p5 CA hcell
              go_wp2_with fail
              go_loopw [6, 10] (fun s6 s10 wr => s6 = .slice aw nw cw ∧ s10 = .int .i64 0 ∧ w5 = wr) (fun _ _ _ => 0)
              case atStart => exact ⟨rfl, rfl, rfl⟩
              case round =>
                obtain ⟨rfl, rfl, rfl⟩ := hrel
                have hns : Hid (ws.length = nw) := hide (by rw [← P6.out.is.1, List.length_map])
                obtain ⟨CI, CL, CB, CF⟩ := pm_asks w w5 M true ws aw nw cw _ P6.out (by have := hns.out; omega) _ rfl nw hns.out
                have HCI := hide CI
                have HU := hide (fun W' (hW : Below w5.heap.size w5 W') => P6.out.is.below hW (Nat.le_refl _))
                have HP6 := hide P6.out
                have HAS := hide (fun W' (hW : Below w5.heap.size w5 W') => (pm_asks w W' M true ws aw nw cw _ (HP6.out.keep hW) (by have := hns.out; omega) _ rfl nw hns.out).2)
                have hml : Hid ((ws.map Prod.fst).length = nw) := hide P6.out.is.1
                obtain ⟨mm, hmm⟩ : ∃ mm, ws.map Prod.fst = mm := ⟨_, rfl⟩
                rw [hmm] at HCI HU hml
                clear CI CL CB CF
                go_wp2_with fail
                all_goals
                  refine HCI.out.mono ?_
                  rintro e w7 ⟨a7, c7, rfl, i7, _, b7, _⟩
                  rw [hml.out] at i7 ⊢
                  have CE := hide (refequal_any a7 aw nw c7 nw cw mm mm w7 i7 (HU.out _ b7) (by omega) (by omega))
                  have B7 := hide b7
                  clear i7 b7 HCI
                  go_wp2_with fail
                  refine CE.out.mono ?_
                  rintro e w8 ⟨o8, rfl, ho8, b8⟩
                  obtain rfl : o8 = true := by simpa using ho8
                  have B8 := hide (bmore B7.out b8)
                  obtain ⟨CL, CB, CF⟩ := HAS.out _ B8.out
                  have HCL := hide CL
                  have HCB := hide CB
                  have HCF := hide CF
                  clear ho8 b8 CE CL CB CF HAS
                  go_wp2_with fail
                  refine HCL.out.mono ?_
                  rintro e w9 ⟨rfl, rfl⟩
                  go_wp2_with fail
                  refine HCB.out.mono ?_
                  rintro e w9' ⟨rfl, rfl⟩
                  go_wp2_with fail
                  refine HCF.out.mono ?_
                  rintro e w9' ⟨rfl, rfl⟩
                  have P9 : Hid (Pm w w9' M (decide (F < i + 1)) ws aw nw cw (ws.map Prod.fst)) := hide (by
                    rw [show decide (F < i + 1) = true from by simp; omega]
                    exact HP6.out.keep B8.out)
                  have HL9 := hide (show ws.length ≤ 60 * (i + 1) by have := hns.out; have := hlw.out; have := hwn.out; omega)
                  clear HCL HCB HCF HU
                  go_wp2_with fail
                  go_roundw
                  case rel => first | exact ⟨i + 1, aw, nw, cw, ws, by omega, by omega, by go_num, rfl, HL9, P9⟩ | ((repeat apply Exists.intro); exact ⟨⟨i + 1, aw, nw, cw, ws, by omega, by omega, by go_num, rfl, HL9, P9⟩, rfl⟩)
                  case measure => simp [intOf]; omega
        · have hfe : ((F : Int) == (i : Int)) = false := by simp; omega
          have hne2 : ¬ (F : Int) = (i : Int) := by omega
          obtain ⟨w3, hw3⟩ : ∃ w3, wr = w3 := ⟨_, rfl⟩
          rw [hw3] at hpm hcell ⊢
          clear hw3
          by_cases hFl : F < i
          · rw [show decide (F < i) = true from by simp; omega] at hpm
            have HP1 := hide hpm.out
            go_wp2_with fail
            go_loopw [8, 9] (fun s8 s9 wr => ∃ (k : Nat) (q : Int), k ≤ nz ∧ s9 = .int .i64 k ∧ s8 = .int .i64 q ∧ Hid (q = if (l.take k).all It.ok then 0 else 1) ∧ Hid (Below w3.heap.size w3 wr)) (fun _ s9 _ => nz - (intOf s9).toNat)
            case atStart => exact ⟨0, 0, by omega, rfl, rfl, hide (by simp), hide (Below.refl _ _)⟩
            case round =>
              obtain ⟨k, q, hk, rfl, rfl, hq, hbel⟩ := hrel
              have hcell := HC.out _ (bmore HP1.out.bel hbel.out)
              by_cases hlt : k < nz
              · obtain ⟨bz, offz, ez, hcc⟩ := (HZ.out _ (bmore HP1.out.bel hbel.out)).2.2.2 (by omega)
                subst ez
                obtain ⟨x, hx⟩ : ∃ x, l[k]? = some x := ⟨_, List.getElem?_eq_getElem (by rw [hlz.out]; exact hlt)⟩
                have hv := hcc k x hx
                have hall := hide (show (l.take (k + 1)).all It.ok = ((l.take k).all It.ok && x.ok) by rw [List.take_add_one, hx, List.all_append]; simp)
                obtain ⟨xS, xK, xT, xV, xX⟩ := x
                unfold Vt Vi at hv
                simp only at hv
                obtain ⟨v0, v1, v2, v3, v4⟩ := hv
                obtain ⟨o, ho⟩ : ∃ o, okI xS xK xT xV xX = o := ⟨_, rfl⟩
                have HO := hide ho
                rw [show It.ok ⟨xS, xK, xT, xV, xX⟩ = o from ho] at hall
                have hk1 : (k : Int) < (nz : Int) := by omega
                clear hcc hx ho
                go_wp2_with fail
                refine (refok_any xS xK xT xV xX _).mono ?_
                rw [HO.out]
                rintro e w4 ⟨rfl, b4⟩
                have B4 := hide (bmore hbel.out b4)
                clear b4 v0 v1 v2 v3 v4 hcell
                cases o with
                | true =>
                  have hq2 := hide (show q = if (l.take (k + 1)).all It.ok then 0 else 1 by rw [hall.out, Bool.and_true]; exact hq.out)
                  go_wp2
                  go_roundw
                  case rel => first | exact ⟨k + 1, q, by omega, by go_num, rfl, hq2, B4⟩ | ((repeat apply Exists.intro); exact ⟨⟨k + 1, q, by omega, by go_num, rfl, hq2, B4⟩, rfl⟩)
                  case measure => simp [intOf]; omega
                | false =>
                  have hq2 := hide (show (1 : Int) = if (l.take (k + 1)).all It.ok then 0 else 1 by rw [hall.out, Bool.and_false]; rfl)
                  go_wp2
                  go_roundw
                  case rel => first | exact ⟨k + 1, 1, by omega, by go_num, rfl, hq2, B4⟩ | ((repeat apply Exists.intro); exact ⟨⟨k + 1, 1, by omega, by go_num, rfl, hq2, B4⟩, rfl⟩)
                  case measure => simp [intOf]; omega
              · have hq2 := hq.out
                rw [List.take_of_length_le (by rw [hlz.out]; omega)] at hq2
                have hk1 : ¬ (k : Int) < (nz : Int) := by omega
                have P5 := hide (HP1.out.keep hbel.out)
                have IZ := hide (HZ.out _ P5.out.bel)
                clear hq hbel
                have hE : applyE true l = 14 := rfl
                have CA := hide (pm_apply w wr M true ws aw nw cw _ P5.out az nz cz l IZ.out (by omega) (by have := hwn.out; omega) HAz.out 14 hE ws rfl)
                clear hE hq2
                have hfi : (F : Int) ≤ (i : Int) := by omega
                have hfd : decide ((F : Int) ≤ (i : Int)) = true := by simp; omega
                go_wp2_with fail
                refine CA.out.mono ?_
                rintro e w5 ⟨rfl, p5⟩
                have P6 := hide p5
                have hcell5 := HC.out _ p5.bel
                clear p5 CA hcell
                go_wp2_with fail
                go_loopw [6, 10] (fun s6 s10 wr => s6 = .slice aw nw cw ∧ s10 = .int .i64 0 ∧ w5 = wr) (fun _ _ _ => 0)
                case atStart => exact ⟨rfl, rfl, rfl⟩
                case round =>
                  obtain ⟨rfl, rfl, rfl⟩ := hrel
                  have hns : Hid (ws.length = nw) := hide (by rw [← P6.out.is.1, List.length_map])
                  obtain ⟨CI, CL, CB, CF⟩ := pm_asks w w5 M true ws aw nw cw _ P6.out (by have := hns.out; omega) _ rfl nw hns.out
                  have HCI := hide CI
                  have HU := hide (fun W' (hW : Below w5.heap.size w5 W') => P6.out.is.below hW (Nat.le_refl _))
                  have HP6 := hide P6.out
                  have HAS := hide (fun W' (hW : Below w5.heap.size w5 W') => (pm_asks w W' M true ws aw nw cw _ (HP6.out.keep hW) (by have := hns.out; omega) _ rfl nw hns.out).2)
                  have hml : Hid ((ws.map Prod.fst).length = nw) := hide P6.out.is.1
                  obtain ⟨mm, hmm⟩ : ∃ mm, ws.map Prod.fst = mm := ⟨_, rfl⟩
                  rw [hmm] at HCI HU hml
                  clear CI CL CB CF
                  go_wp2_with fail
                  all_goals
                    refine HCI.out.mono ?_
                    rintro e w7 ⟨a7, c7, rfl, i7, _, b7, _⟩
                    rw [hml.out] at i7 ⊢
                    have CE := hide (refequal_any a7 aw nw c7 nw cw mm mm w7 i7 (HU.out _ b7) (by omega) (by omega))
                    have B7 := hide b7
                    clear i7 b7 HCI
                    go_wp2_with fail
                    refine CE.out.mono ?_
                    rintro e w8 ⟨o8, rfl, ho8, b8⟩
                    obtain rfl : o8 = true := by simpa using ho8
                    have B8 := hide (bmore B7.out b8)
                    obtain ⟨CL, CB, CF⟩ := HAS.out _ B8.out
                    have HCL := hide CL
                    have HCB := hide CB
                    have HCF := hide CF
                    clear ho8 b8 CE CL CB CF HAS
                    go_wp2_with fail
                    refine HCL.out.mono ?_
                    rintro e w9 ⟨rfl, rfl⟩
                    go_wp2_with fail
                    refine HCB.out.mono ?_
                    rintro e w9' ⟨rfl, rfl⟩
                    go_wp2_with fail
                    refine HCF.out.mono ?_
                    rintro e w9' ⟨rfl, rfl⟩
                    have P9 : Hid (Pm w w9' M (decide (F < i + 1)) ws aw nw cw (ws.map Prod.fst)) := hide (by
                      rw [show decide (F < i + 1) = true from by simp; omega]
                      exact HP6.out.keep B8.out)
                    have HL9 := hide (show ws.length ≤ 60 * (i + 1) by have := hns.out; have := hlw.out; have := hwn.out; omega)
                    clear HCL HCB HCF HU
                    go_wp2_with fail
                    go_roundw
                    case rel => first | exact ⟨i + 1, aw, nw, cw, ws, by omega, by omega, by go_num, rfl, HL9, P9⟩ | ((repeat apply Exists.intro); exact ⟨⟨i + 1, aw, nw, cw, ws, by omega, by omega, by go_num, rfl, HL9, P9⟩, rfl⟩)
                    case measure => simp [intOf]; omega
          · rw [show decide (F < i) = false from by simp; omega] at hpm
            have HP1 := hide hpm.out
            go_wp2_with fail
            go_loopw [8, 9] (fun s8 s9 wr => ∃ (k : Nat) (q : Int), k ≤ nz ∧ s9 = .int .i64 k ∧ s8 = .int .i64 q ∧ Hid (q = if (l.take k).all It.ok then 0 else 1) ∧ Hid (Below w3.heap.size w3 wr)) (fun _ s9 _ => nz - (intOf s9).toNat)
            case atStart => exact ⟨0, 0, by omega, rfl, rfl, hide (by simp), hide (Below.refl _ _)⟩
            case round =>
              obtain ⟨k, q, hk, rfl, rfl, hq, hbel⟩ := hrel
              have hcell := HC.out _ (bmore HP1.out.bel hbel.out)
              by_cases hlt : k < nz
              · obtain ⟨bz, offz, ez, hcc⟩ := (HZ.out _ (bmore HP1.out.bel hbel.out)).2.2.2 (by omega)
                subst ez
                obtain ⟨x, hx⟩ : ∃ x, l[k]? = some x := ⟨_, List.getElem?_eq_getElem (by rw [hlz.out]; exact hlt)⟩
                have hv := hcc k x hx
                have hall := hide (show (l.take (k + 1)).all It.ok = ((l.take k).all It.ok && x.ok) by rw [List.take_add_one, hx, List.all_append]; simp)
                obtain ⟨xS, xK, xT, xV, xX⟩ := x
                unfold Vt Vi at hv
                simp only at hv
                obtain ⟨v0, v1, v2, v3, v4⟩ := hv
                obtain ⟨o, ho⟩ : ∃ o, okI xS xK xT xV xX = o := ⟨_, rfl⟩
                have HO := hide ho
                rw [show It.ok ⟨xS, xK, xT, xV, xX⟩ = o from ho] at hall
                have hk1 : (k : Int) < (nz : Int) := by omega
                clear hcc hx ho
                go_wp2_with fail
                refine (refok_any xS xK xT xV xX _).mono ?_
                rw [HO.out]
                rintro e w4 ⟨rfl, b4⟩
                have B4 := hide (bmore hbel.out b4)
                clear b4 v0 v1 v2 v3 v4 hcell
                cases o with
                | true =>
                  have hq2 := hide (show q = if (l.take (k + 1)).all It.ok then 0 else 1 by rw [hall.out, Bool.and_true]; exact hq.out)
                  go_wp2
                  go_roundw
                  case rel => first | exact ⟨k + 1, q, by omega, by go_num, rfl, hq2, B4⟩ | ((repeat apply Exists.intro); exact ⟨⟨k + 1, q, by omega, by go_num, rfl, hq2, B4⟩, rfl⟩)
                  case measure => simp [intOf]; omega
                | false =>
                  have hq2 := hide (show (1 : Int) = if (l.take (k + 1)).all It.ok then 0 else 1 by rw [hall.out, Bool.and_false]; rfl)
                  go_wp2
                  go_roundw
                  case rel => first | exact ⟨k + 1, 1, by omega, by go_num, rfl, hq2, B4⟩ | ((repeat apply Exists.intro); exact ⟨⟨k + 1, 1, by omega, by go_num, rfl, hq2, B4⟩, rfl⟩)
                  case measure => simp [intOf]; omega
              · have hq2 := hq.out
                rw [List.take_of_length_le (by rw [hlz.out]; omega)] at hq2
                have hk1 : ¬ (k : Int) < (nz : Int) := by omega
                have P5 := hide (HP1.out.keep hbel.out)
                have IZ := hide (HZ.out _ P5.out.bel)
                clear hq hbel
                cases hok : l.all It.ok with
                | true =>
                  rw [hok, if_pos rfl] at hq2
                  subst hq2
                  have HOK := hide hok
                  have CA := hide (pm_apply w wr M false ws aw nw cw _ P5.out az nz cz l IZ.out (by omega) (by have := hwn.out; omega) HAz.out 0 (by unfold applyE; rw [hok]; rfl) (putAll l ws) (by unfold applyW; rw [hok]; rfl))
                  clear hok
                  have hfi : ¬ (F : Int) ≤ (i : Int) := by omega
                  have hfd : decide ((F : Int) ≤ (i : Int)) = false := by simp; omega
                  go_wp2_with fail
                  refine CA.out.mono ?_
                  rintro e w5 ⟨rfl, p5⟩
                  have P6 := hide p5
                  have hcell5 := HC.out _ p5.bel
                  clear p5 CA hcell
                  go_wp2_with fail
                  go_loopw [6, 10] (fun s6 s10 wr => ∃ (k2 : Nat) (av : Option Addr) (nv cv : Nat), k2 ≤ nz ∧ s10 = .int .i64 k2 ∧ s6 = .slice av nv cv ∧ nv ≤ nw + k2 ∧ Hid (Pm w wr M false (putAll l ws) av nv cv ((putAll (l.take k2) ws).map Prod.fst))) (fun _ s10 _ => nz - (intOf s10).toNat)
                  case atStart => exact ⟨0, aw, nw, cw, by omega, rfl, rfl, by omega, P6⟩
                  case round =>
                    obtain ⟨k2, av, nv, cv, hk2, rfl, rfl, hnv, hp2⟩ := hrel
                    have hcell2 := HC.out _ hp2.out.bel
                    by_cases hlt2 : k2 < nz
                    · have hIz := HZ.out _ hp2.out.bel
                      obtain ⟨bz, offz, ez, hcc⟩ := hIz.2.2.2 (by omega)
                      subst ez
                      obtain ⟨x, hx⟩ : ∃ x, l[k2]? = some x := ⟨_, List.getElem?_eq_getElem (by rw [hlz.out]; exact hlt2)⟩
                      have hcap := hIz.2.1.1
                      have ISX := hide (is_cut hIz k2 x hx (cz - k2) (by omega))
                      have RST := hide (rows_step l k2 x hx HOK.out ws)
                      have hk3 : (k2 : Int) < (nz : Int) := by omega
                      have HI2 := hide hp2.out.is
                      have RW := hide (rws_two wr ⟨av, nv, cv, _⟩ ⟨some ⟨bz, offz + k2 * 5, none⟩, 1, cz - k2, [x]⟩ hp2.out.is ISX.out (by show nv ≤ _; omega) (by show 1 ≤ _; omega))
                      simp only at RW
                      have AR := hide ((Below.refl _ wr).alloc (Nat.le_refl _) (Obj.cells #[.slice av nv cv, .slice (some ⟨bz, offz + k2 * 5, none⟩) 1 (cz - k2)] 22))
                      have CR := hide (refrows_any _ 2 2 _ _ RW.out (by omega) (by
                        have e1 : ((putAll (l.take k2) ws).map Prod.fst).length = nv := hp2.out.is.1
                        unfold sumL; simp only [List.map_cons, List.map_nil, List.sum_cons, List.sum_nil, e1, List.length_singleton]; omega))
                      rw [rows_two, ← RST.out] at CR
                      clear hIz hcc hx RW
                      go_wp2_with fail
                      refine CR.out.mono ?_
                      rintro e w6 ⟨a6, c6, rfl, i6, _, b6, o6⟩
                      obtain ⟨n6, hn6⟩ : ∃ n6, ((putAll (l.take (k2 + 1)) ws).map Prod.fst).length = n6 := ⟨_, rfl⟩
                      have hle6 : n6 ≤ nw + (k2 + 1) := by have h1 := putAll_len (l.take (k2 + 1)) ws; have := hwn.out; rw [← hn6, List.length_map]; rw [List.length_take] at h1; omega
                      have ho6 := hide (show 0 < n6 → ∀ x, a6 = some x → wr.heap.size ≤ x.block from fun hp x hx => by
                        have := ownI_blk o6 i6.2.2.1 x hx
                        have := AR.out.size
                        omega)
                      rw [hn6] at i6 ⊢
                      have P9 := hide (hp2.out.row (bmore AR.out b6) i6 ho6.out)
                      clear i6 b6 o6 CR hn6
                      go_wp2_with fail
                      go_roundw
                      case rel => first | exact ⟨k2 + 1, a6, n6, c6, by omega, by go_num, rfl, by omega, P9⟩ | ((repeat apply Exists.intro); exact ⟨⟨k2 + 1, a6, n6, c6, by omega, by go_num, rfl, by omega, P9⟩, rfl⟩)
                      case measure => simp [intOf]; omega
                    · obtain rfl : k2 = nz := by omega
                      have e2 : l.take k2 = l := List.take_of_length_le (by rw [hlz.out]; exact Nat.le_refl _)
                      rw [e2] at hp2
                      have hk3 : ¬ (k2 : Int) < (k2 : Int) := by omega
                      have hd4 : decide ((k2 : Int) < (k2 : Int)) = false := by simp
                      clear e2
                      have hns : Hid ((putAll l ws).length = nv) := hide (by rw [← hp2.out.is.1, List.length_map])
                      obtain ⟨CI, CL, CB, CF⟩ := pm_asks w wr M false (putAll l ws) av nv cv _ hp2.out (by have := hns.out; omega) _ rfl nv hns.out
                      have HCI := hide CI
                      have HU := hide (fun W' (hW : Below wr.heap.size wr W') => hp2.out.is.below hW (Nat.le_refl _))
                      have HP6 := hide hp2.out
                      have HAS := hide (fun W' (hW : Below wr.heap.size wr W') => (pm_asks w W' M false (putAll l ws) av nv cv _ (HP6.out.keep hW) (by have := hns.out; omega) _ rfl nv hns.out).2)
                      have hml : Hid (((putAll l ws).map Prod.fst).length = nv) := hide hp2.out.is.1
                      obtain ⟨mm, hmm⟩ : ∃ mm, (putAll l ws).map Prod.fst = mm := ⟨_, rfl⟩
                      rw [hmm] at HCI HU hml
                      clear CI CL CB CF
                      go_wp2_with fail
                      all_goals
                        refine HCI.out.mono ?_
                        rintro e w7 ⟨a7, c7, rfl, i7, _, b7, _⟩
                        rw [hml.out] at i7 ⊢
                        have CE := hide (refequal_any a7 av nv c7 nv cv mm mm w7 i7 (HU.out _ b7) (by omega) (by omega))
                        have B7 := hide b7
                        clear i7 b7 HCI
                        go_wp2_with fail
                        refine CE.out.mono ?_
                        rintro e w8 ⟨o8, rfl, ho8, b8⟩
                        obtain rfl : o8 = true := by simpa using ho8
                        have B8 := hide (bmore B7.out b8)
                        obtain ⟨CL, CB, CF⟩ := HAS.out _ B8.out
                        have HCL := hide CL
                        have HCB := hide CB
                        have HCF := hide CF
                        clear ho8 b8 CE CL CB CF HAS
                        go_wp2_with fail
                        refine HCL.out.mono ?_
                        rintro e w9 ⟨rfl, rfl⟩
                        go_wp2_with fail
                        refine HCB.out.mono ?_
                        rintro e w9' ⟨rfl, rfl⟩
                        go_wp2_with fail
                        refine HCF.out.mono ?_
                        rintro e w9' ⟨rfl, rfl⟩
                        have P9 : Hid (Pm w w9' M (decide (F < i + 1)) (putAll l ws) av nv cv ((putAll l ws).map Prod.fst)) := hide (by
                          rw [show decide (F < i + 1) = false from by simp; omega]
                          exact HP6.out.keep B8.out)
                        have HL9 := hide (show (putAll l ws).length ≤ 60 * (i + 1) by have := hns.out; have := hlw.out; have := hwn.out; omega)
                        clear HCL HCB HCF HU
                        go_wp2_with fail
                        go_roundw
                        case rel => first | exact ⟨i + 1, av, nv, cv, (putAll l ws), by omega, by omega, by go_num, rfl, HL9, P9⟩ | ((repeat apply Exists.intro); exact ⟨⟨i + 1, av, nv, cv, (putAll l ws), by omega, by omega, by go_num, rfl, HL9, P9⟩, rfl⟩)
                        case measure => simp [intOf]; omega
                | false =>
                  rw [hok, if_neg Bool.false_ne_true] at hq2
                  subst hq2
                  have CA := hide (pm_apply w wr M false ws aw nw cw _ P5.out az nz cz l IZ.out (by omega) (by have := hwn.out; omega) HAz.out 1 (by unfold applyE; rw [hok]; rfl) ws (by unfold applyW; rw [hok]; rfl))
                  clear hok
                  have hfi : ¬ (F : Int) ≤ (i : Int) := by omega
                  have hfd : decide ((F : Int) ≤ (i : Int)) = false := by simp; omega
                  go_wp2_with fail
                  refine CA.out.mono ?_
                  rintro e w5 ⟨rfl, p5⟩
                  have P6 := hide p5
                  have hcell5 := HC.out _ p5.bel
                  clear p5 CA hcell
                  go_wp2_with fail
                  go_loopw [6, 10] (fun s6 s10 wr => s6 = .slice aw nw cw ∧ s10 = .int .i64 0 ∧ w5 = wr) (fun _ _ _ => 0)
                  case atStart => exact ⟨rfl, rfl, rfl⟩
                  case round =>
                    obtain ⟨rfl, rfl, rfl⟩ := hrel
                    have hns : Hid (ws.length = nw) := hide (by rw [← P6.out.is.1, List.length_map])
                    obtain ⟨CI, CL, CB, CF⟩ := pm_asks w w5 M false ws aw nw cw _ P6.out (by have := hns.out; omega) _ rfl nw hns.out
                    have HCI := hide CI
                    have HU := hide (fun W' (hW : Below w5.heap.size w5 W') => P6.out.is.below hW (Nat.le_refl _))
                    have HP6 := hide P6.out
                    have HAS := hide (fun W' (hW : Below w5.heap.size w5 W') => (pm_asks w W' M false ws aw nw cw _ (HP6.out.keep hW) (by have := hns.out; omega) _ rfl nw hns.out).2)
                    have hml : Hid ((ws.map Prod.fst).length = nw) := hide P6.out.is.1
                    obtain ⟨mm, hmm⟩ : ∃ mm, ws.map Prod.fst = mm := ⟨_, rfl⟩
                    rw [hmm] at HCI HU hml
                    clear CI CL CB CF
                    go_wp2_with fail
                    all_goals
                      refine HCI.out.mono ?_
                      rintro e w7 ⟨a7, c7, rfl, i7, _, b7, _⟩
                      rw [hml.out] at i7 ⊢
                      have CE := hide (refequal_any a7 aw nw c7 nw cw mm mm w7 i7 (HU.out _ b7) (by omega) (by omega))
                      have B7 := hide b7
                      clear i7 b7 HCI
                      go_wp2_with fail
                      refine CE.out.mono ?_
                      rintro e w8 ⟨o8, rfl, ho8, b8⟩
                      obtain rfl : o8 = true := by simpa using ho8
                      have B8 := hide (bmore B7.out b8)
                      obtain ⟨CL, CB, CF⟩ := HAS.out _ B8.out
                      have HCL := hide CL
                      have HCB := hide CB
                      have HCF := hide CF
                      clear ho8 b8 CE CL CB CF HAS
                      go_wp2_with fail
                      refine HCL.out.mono ?_
                      rintro e w9 ⟨rfl, rfl⟩
                      go_wp2_with fail
                      refine HCB.out.mono ?_
                      rintro e w9' ⟨rfl, rfl⟩
                      go_wp2_with fail
                      refine HCF.out.mono ?_
                      rintro e w9' ⟨rfl, rfl⟩
                      have P9 : Hid (Pm w w9' M (decide (F < i + 1)) ws aw nw cw (ws.map Prod.fst)) := hide (by
                        rw [show decide (F < i + 1) = false from by simp; omega]
                        exact HP6.out.keep B8.out)
                      have HL9 := hide (show ws.length ≤ 60 * (i + 1) by have := hns.out; have := hlw.out; have := hwn.out; omega)
                      clear HCL HCB HCF HU
                      go_wp2_with fail
                      go_roundw
                      case rel => first | exact ⟨i + 1, aw, nw, cw, ws, by omega, by omega, by go_num, rfl, HL9, P9⟩ | ((repeat apply Exists.intro); exact ⟨⟨i + 1, aw, nw, cw, ws, by omega, by omega, by go_num, rfl, HL9, P9⟩, rfl⟩)
                      case measure => simp [intOf]; omega
    · have BE := hide hpm.out.bel
      by_cases hin : i < n
      · have h20 : i = 20 := by omega
        have hin1 : (i : Int) < (n : Int) := by omega
        have hd1 : decide ((i : Int) < (n : Int)) = true := by simp; omega
        have hi21 : ¬ (i : Int) < 20 := by omega
        have hd2 : decide ((i : Int) < 20) = false := by simp; omega
        clear h20 hlt
        go_wp2
        go_ret
        exact ⟨rfl, BE.out⟩
      · have hin1 : ¬ (i : Int) < (n : Int) := by omega
        have hd1 : decide ((i : Int) < (n : Int)) = false := by simp; omega
        clear hlt
        go_wp2
        go_ret
        exact ⟨rfl, BE.out⟩

end Go.Proofs.YtjpoahnecbefaaaDoor.Clep
