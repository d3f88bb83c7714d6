/- BloomTells, the walk over the translated program, where New makes a Filter: for at most 40 rows. -/
import Derived.Test.YtjphnflahpcaiaaBTells
namespace Go.Proofs.Ytjphnflahpcaiaa.Clep
open Go.RowKit
set_option linter.unusedVariables false

set_option maxRecDepth 100000 in
set_option maxHeartbeats 12800000 in
theorem tells_few (n b : Nat) (a2 : Option Addr) (len2 cap2 : Nat) (zss : List (List Int)) (a3 : Option Addr) (len3 cap3 : Nat) (qs : List Int) (w : World) (hn : n ≤ 10000) (hb : 1 ≤ b ∧ b ≤ 20) (hle : len2 ≤ 40) (hm2 : len2 ≤ 9223372036854775807) (h2 : Bss w a2 len2 cap2 zss) (hm3 : len3 ≤ 9223372036854775807) (h3 : Bs w a3 len3 cap3 qs) :
    Calls Try.prog 5 #[.int .i64 n, .int .i64 b, .slice a2 len2 cap2, .slice a3 len3 cap3] w fun e w' => e = .returned (.bool true) ∧ Below w.heap.size w w' := by
  obtain ⟨bb, off, ha, HK⟩ := bss_at h2
  have C1 := hide (one_new w w (fun _ => False) n b hn hb (Nat.le_refl _) (fun b e => e.elim))
  have C2 := hide (fun w1 M => fun h h' => pr_new w n b hn hb w1 M h h')
  have hk := kOf_range b hb.2
  have hs := sOf_range n b hn hb.2
  have H3 := hide h3
  clear h2 h3
  generalize kOf b = k at *
  generalize sOf n b = sz at *
  go_enter Try.func5, Try.ntmps5
  go_wp2_with fail
  refine C1.out.mono ?_
  rintro e w1 ⟨M, rfl, h1, b1, -, -⟩
  have C3 := hide (C2.out w1 M h1 b1)
  clear h1 b1 C1 C2
  go_wp2_with fail
  refine C3.out.mono ?_
  rintro e w2 ⟨R, rfl, D, hP⟩
  have P2 := hide hP
  clear hP C3
  by_cases h500 : 500 < len3
  · go_wp2_with fail
    refine (awake_any w2).mono ?_
    rintro e w3 ⟨rfl, hb⟩
    have HB := hide (bmore P2.out.bel hb)
    clear hb
    go_wp2
    go_ret
    exact ⟨rfl, HB.out⟩
  · go_wp2
    go_loopw [12] (fun u wr => ∃ i N : Nat, u = .int .i64 i ∧ i ≤ 40 ∧ i ≤ len2 ∧ Hid (∀ j, j < i → hask (fnv (zss.getD j [])) sz k N = true) ∧ Hid (Pr w wr M R D k sz N)) (fun u _ => len2 - (intOf u).toNat)
    case atStart => exact ⟨0, 0, rfl, by omega, by omega, hide (fun j hj => by omega), P2⟩
    case round =>
      obtain ⟨i, N, rfl, hi, hil, hal, hP⟩ := hrel
      by_cases hlt : i < len2 ∧ i < 40
      · obtain ⟨hlt, h40⟩ := hlt
        obtain ⟨a', l, c, hcell, hl, hz⟩ := HK.out i hlt
        have HW := hide hcell
        have HZ := hide hz
        obtain rfl := ha (by omega)
        have q1 := (hcell wr hP.out.bel).1
        clear hcell hz
        by_cases hl2 : 200 < l
        · go_wp2_with fail
          refine (awake_any wr).mono ?_
          rintro e w3 ⟨rfl, hb⟩
          have HB := hide (bmore hP.out.bel hb)
          clear hb
          go_wp2
          go_ret
          exact ⟨rfl, HB.out⟩
        · have CA := hide (pr_add w wr M R D k sz N hP.out a' l c _ hl HZ.out)
          generalize hzz : zss.getD i [] = z at *
          have HZZ := hide hzz
          clear hzz
          go_wp2_with fail
          refine CA.out.mono ?_
          rintro e w3 ⟨rfl, g1, g2, g3⟩
          have q2 := (HW.out w3 g3).1
          have q3 := conv_bs (HW.out w3 g3).2
          have CR := hide (pr_radd w w3 M R D k sz N _ g1 g2 g3 hP.out.rD z (bs_range HZ.out) (by rw [HZ.out.1]; exact hl) rfl)
          clear g1 g2 g3 CA
          generalize strOfNums z = sz' at *
          go_wp2_with fail
          refine CR.out.mono ?_
          rintro e w4 ⟨rfl, hP4⟩
          have P4 := hide hP4
          clear hP4 CR q1 q2 q3
          go_wp2
          go_round
          case rel => exact ⟨i + 1, _, by go_num, by omega, by omega, hide (fun j hj => by
            rcases Nat.lt_or_ge j i with e | e
            · exact hask_mono (addk_more _ _ _ _) (hal.out j e)
            · rw [show j = i by omega, HZZ.out]; exact hask_add _ _ _ _), P4⟩
          case measure => simp [intOf]; omega
      · have hcase : (i < len2 ∧ ¬ i < 40) ∨ ¬ i < len2 := by omega
        have HI : Hid (∀ j, j < len2 → j < 40 → j < i) := hide fun j h1 h2 => by omega
        clear hlt
        rcases hcase with ⟨hq, h40⟩ | hq
        all_goals first
        | (exfalso; omega)
        | skip
        all_goals
          go_wp2
          go_loopw [13] (fun u wr => ∃ j : Nat, u = .int .i64 j ∧ j ≤ 40 ∧ j ≤ len2 ∧ Hid (Pr w wr M R D k sz N)) (fun u _ => len2 - (intOf u).toNat)
          case atStart => exact ⟨0, rfl, by omega, by omega, hP⟩
          case round =>
            obtain ⟨j, rfl, hj, hjl, hPj⟩ := hrel
            by_cases hlt2 : j < len2 ∧ j < 40
            · obtain ⟨hlt2, hj40⟩ := hlt2
              obtain ⟨a', l, c, hcell, hl, hz⟩ := HK.out j hlt2
              have HW := hide hcell
              have HZ := hide hz
              obtain rfl := ha (by omega)
              have q1 := (hcell _ hPj.out.bel).1
              have HT := hide (hal.out j (HI.out j hlt2 hj40))
              clear hcell hz
              have CH := hide (pr_has w _ M R D k sz N hPj.out a' l c _ hl HZ.out)
              generalize zss.getD j [] = z at *
              go_wp2_with fail
              refine CH.out.mono ?_
              rintro e w3 ⟨rfl, hP3⟩
              have P3 := hide hP3
              clear hP3 CH q1
              rw [HT.out]
              go_wp2
              go_round
              case rel => exact ⟨j + 1, by go_num, by omega, by omega, P3⟩
              case measure => simp [intOf]; omega
            · have hcase2 : (j < len2 ∧ ¬ j < 40) ∨ ¬ j < len2 := by omega
              clear hlt2
              rcases hcase2 with ⟨hq2, h402⟩ | hq2
              all_goals first
              | (exfalso; omega)
              | skip
              all_goals
                have CB := hide (one_bytes w _ _ M k sz N hPj.out.one)
                go_wp2_with fail
                refine CB.out.mono ?_
                rintro e w3 ⟨v, rfl, o1, o2, o3, Df, o4⟩
                obtain ⟨ao, cap, rfl, hcap, hbs, -⟩ := own_bs o1 (range_of (fb_range k sz N hk.2 hs.2))
                have R3 := hide (hPj.out.nu o2 o3)
                have F3 := hide o4
                have HN := hide hPj.out.one.nb
                have CR := hide (read_ok w3 ao _ cap _ (by unfold maxLen at hcap; have := hbs.2.1.1; omega) hbs k sz N (fr_fb k sz N hk hs hPj.out.one.nb))
                have hlen : (fb k sz N).length ≤ 30000 := by rw [fb_len]; have := pu_len k; have := pu_len sz; omega
                clear o1 o2 o3 o4 hbs CB hP hPj
                obtain ⟨L, hL⟩ : ∃ L, (fb k sz N).length = L := ⟨_, rfl⟩
                rw [hL] at hlen CR ⊢
                have HL := hide hL
                clear hL
                go_wp2_with fail
                refine CR.out.mono ?_
                rintro e w4 ⟨Mg, rfl, Dg, g1, g2, -, -⟩
                have B4 := hide (bmore R3.out.2.2 g2)
                have F4 := hide (F3.out.keep g2)
                have G4 := hide g1
                have W4 := hide (R3.out.2.1.keep g2).rf
                have A4 := hide (H3.out.below (bmore R3.out.2.2 g2) (Nat.le_refl _))
                clear g1 g2 CR R3 F3
                obtain ⟨S, hS⟩ : ∃ S, strOfNums (fb k sz N) = S := ⟨_, rfl⟩
                obtain ⟨SA, hSA⟩ : ∃ S, strOfNums qs = S := ⟨_, rfl⟩
                obtain ⟨ho, hho⟩ : ∃ h, hask (fnv qs) sz k N = h := ⟨_, rfl⟩
                obtain ⟨r, hr⟩ : ∃ r, pc (8 * sz) N = r := ⟨_, rfl⟩
                have cB : Hid (∀ W X, Fg M Mg X → Below w4.heap.size w4 W → Calls Try.prog 11 #[.pointer (some ⟨X, 0, none⟩)] W fun e w' => ∃ a c, e = .returned (.slice a L c) ∧
                    (∀ W', Below w'.heap.size w' W' → (convert 27 9 (.slice a L c)).run Try.prog W' = .ok (.string S) W') ∧ Below w4.heap.size w4 w' ∧ Below w'.heap.size w' w') := hide fun W X hX hW => by
                  have main : Calls Try.prog 11 #[.pointer (some ⟨X, 0, none⟩)] W fun e w' => ∃ v, e = .returned v ∧ Own w' W.heap.size v (fb k sz N) ∧ Below W.heap.size W w' := by
                    rcases hX with rfl | rfl
                    · exact bytes_l W X Df k sz N (F4.out.keep hW) hk hs
                    · exact bytes_l W X Dg k sz N (G4.out.keep hW) hk hs
                  refine main.mono fun e w' ⟨v, he, ho, hb⟩ => ?_
                  obtain ⟨a, c, rfl, hcv⟩ := own_conv ho (fb_range k sz N hk.2 hs.2) L HL.out
                  exact ⟨a, c, he, by rw [← hS]; exact hcv.out, bmore hW hb, Below.refl _ _⟩
                have cH : Hid (∀ W X, Fg M Mg X → Below w4.heap.size w4 W → Calls Try.prog 15 #[.pointer (some ⟨X, 0, none⟩), .slice a3 len3 cap3] W fun e w' => e = .returned (.bool ho) ∧ Below w4.heap.size w4 w') := hide fun W X hX hW => by
                  have main : Calls Try.prog 15 #[.pointer (some ⟨X, 0, none⟩), .slice a3 len3 cap3] W fun e w' => e = .returned (.bool (hask (fnv qs) sz k N)) ∧ Below W.heap.size W w' := by
                    rcases hX with rfl | rfl
                    · exact has_l W X Df k sz N (F4.out.keep hW) hk hs a3 len3 cap3 qs hm3 (A4.out.below hW (Nat.le_refl _))
                    · exact has_l W X Dg k sz N (G4.out.keep hW) hk hs a3 len3 cap3 qs hm3 (A4.out.below hW (Nat.le_refl _))
                  exact main.mono fun e w' q => ⟨by rw [← hho]; exact q.1, bmore hW q.2⟩
                have cO : Hid (∀ W, Below w4.heap.size w4 W → Calls Try.prog 12 #[.pointer (some ⟨M, 0, none⟩)] W fun e w' => e = .returned (.int .i64 (r : Nat)) ∧ Below w4.heap.size w4 w') := hide fun W hW =>
                  (ones_l W M Df k sz N (F4.out.keep hW) hs HN.out).mono fun e w' q => ⟨by rw [← hr]; exact q.1, bmore hW q.2⟩
                have cRB : Hid (∀ W, Below w4.heap.size w4 W → Calls Try.prog 14 #[.pointer (some ⟨R, 0, none⟩)] W fun e w' => e = .returned (.string S) ∧ Below w4.heap.size w4 w' ∧ Below W.heap.size W w') := hide fun W hW =>
                  (refbytes_any W R sz k sz N (some ⟨D, 0, none⟩) (W4.out.keep hW) hk hs).mono fun e w' q => ⟨by rw [← hS]; exact q.1, bmore hW q.2, q.2⟩
                have cRH : Hid (∀ W, Below w4.heap.size w4 W → Calls Try.prog 18 #[.pointer (some ⟨R, 0, none⟩), .string SA] W fun e w' => e = .returned (.bool ho) ∧ Below w4.heap.size w4 w') := hide fun W hW => by
                  rw [← hSA]
                  exact (refhas_any W R sz k sz N (some ⟨D, 0, none⟩) (W4.out.keep hW) hk hs (strOfNums qs) qs (by rw [str_size, A4.out.1]; exact hm3) (sz_of qs (range_of (bs_range A4.out))) (bs_range A4.out)).mono fun e w' q => ⟨by rw [← hho]; exact q.1, by rw [q.2]; exact hW⟩
                have cRO : Hid (∀ W, Below w4.heap.size w4 W → Calls Try.prog 19 #[.slice (some ⟨D, 0, none⟩) sz sz] W fun e w' => e = .returned (.int .i64 (r : Nat)) ∧ Below w4.heap.size w4 w') := hide fun W hW =>
                  (lawones_any W (some ⟨D, 0, none⟩) sz sz N (W4.out.keep hW).bits hs.2).mono fun e w' q => ⟨by rw [← hr]; exact q.1, by rw [q.2]; exact hW⟩
                have cW : Hid (∀ W, Below w4.heap.size w4 W → Calls Try.prog 9 #[] W fun e w' => e = .returned (.bool true) ∧ Below w4.heap.size w4 w') := hide fun W hW =>
                  (awake_any W).mono fun e w' q => ⟨q.1, bmore hW q.2⟩
                have HC : Hid (∀ W, Below w4.heap.size w4 W → Below w4.heap.size w4 W ∧ W.cell? ⟨R, 1, none⟩ = some (.slice (some ⟨D, 0, none⟩) sz sz) ∧ (convert 27 9 (.slice a3 len3 cap3)).run Try.prog W = .ok (.string SA) W) := hide fun W hW =>
                  ⟨hW, (W4.out.keep hW).head.cell rfl, by rw [← hSA]; exact conv_bs (A4.out.below hW (Nat.le_refl _))⟩
                have hb0 : Below w4.heap.size w4 w4 := Below.refl _ _
                have x1 : Fg M Mg M := .inl rfl
                have x2 : Fg M Mg Mg := .inr rfl
                clear hS hSA hho hr W4 A4 F4 G4 HN HL H3 HK ha hal HI
                go_wp2_with fail
                go_region_held_law (fun W => Below w4.heap.size w4 W ∧ W.cell? ⟨R, 1, none⟩ = some (.slice (some ⟨D, 0, none⟩) sz sz) ∧ (convert 27 9 (.slice a3 len3 cap3)).run Try.prog W = .ok (.string SA) W)
                  (first | exact HC.out _ (by assumption) | exact HC.out _ (Below.drew (by assumption)))
                  (first
                  | (go_at_call 11; refine (cB.out _ _ (by assumption) (And.left (by assumption))).mono ?_; rintro e w' ⟨a, c, rfl, hcv, hb, hbr⟩)
                  | (go_at_call 15; refine (cH.out _ _ (by assumption) (And.left (by assumption))).mono ?_; rintro e w' ⟨rfl, hb⟩)
                  | (go_at_call 12; refine (cO.out _ (And.left (by assumption))).mono ?_; rintro e w' ⟨rfl, hb⟩)
                  | (go_at_call 14; refine (cRB.out _ (And.left (by assumption))).mono ?_; rintro e w' ⟨rfl, hb, hbs⟩)
                  | (go_at_call 18; refine (cRH.out _ (And.left (by assumption))).mono ?_; rintro e w' ⟨rfl, hb⟩)
                  | (go_at_call 19; refine (cRO.out _ (And.left (by assumption))).mono ?_; rintro e w' ⟨rfl, hb⟩)
                  | (go_at_call 9; refine (cW.out _ (And.left (by assumption))).mono ?_; rintro e w' ⟨rfl, hb⟩))
                all_goals
                  have HB := hide (bmore B4.out hb)
                  clear hb
                  go_wp2
                  go_ret
                  exact ⟨rfl, HB.out⟩

end Go.Proofs.Ytjphnflahpcaiaa.Clep
