/- LogPlays, walked: it answers true. For any batches, any Syncs, whatever is kept, a failure at any one. -/
import Derived.Test.YtdldpdllhnpdaaaGreatLh
import Derived.Test.YtdldpdllhnpdaaaGreatLd
import Derived.Test.YtdldpdllhnpdaaaGreatLc
import Derived.Test.YtdldpdllhnpdaaaGreatLe
import Derived.Test.YtdldpdllhnpdaaaGreatZa
namespace Go.Proofs.YtdldpdllhnpdaaaGreat.Clep
open Go.RowKit Go.Maps
set_option linter.unusedVariables false
set_option maxRecDepth 10000

/-- Where the first batches end, while they are counted. -/
def Er (D : List (List It)) (nw : Nat) (w7 wq : World) (s1 s2 : Value) : Prop := ∃ j E : Nat, j ≤ nw ∧ s2 = .int .i64 j ∧ s1 = .int .i64 E ∧ E ≤ 6000 ∧ en D j = E ∧ Below w7.heap.size w7 wq
set_option maxRecDepth 20000 in
set_option maxHeartbeats 16000000 in
theorem plays_walk (a : Option Addr) (n c : Nat) (zs : List Sl) (sy ke fa : Int) (w : World) (h : Rws w a n c zs) (hn : n ≤ 9223372036854775807) (hke : (Lit.int .i64 ke).wf = true) :
    Calls Tryz.prog 3 #[.slice a n c, .int .i64 sy, .int .i64 ke, .int .i64 fa] w fun e w' => e = .returned (.bool true) ∧ Below w.heap.size w w' := by
  have C := hide (few_any a n c zs w h hn)
  have HF := hide (fun e => few_ok h e)
  have HI0 := hide (fun k (hk : k < n) => rws_at h k hk)
  have HST := hide (sumL_take zs)
  have HSL := hide (sumL_le zs)
  obtain ⟨φ, hφ⟩ : ∃ φ : Nat, bits .and .i64 fa 31 = (φ : Int) := by
    have h := and_mask fa 31 (by decide)
    rw [show (((31 : Nat) : Int)) = 31 from rfl] at h
    exact Int.eq_ofNat_of_zero_le h.1
  have HKE := hide hke
  clear h hke
  generalize fewB n zs = O at *
  go_enter Tryz.func3, Tryz.ntmps3
  go_wp2_with fail
  refine C.out.mono ?_
  rintro e w0 ⟨rfl, rfl⟩
  clear C
  cases O with
  | false =>
    have AW := hide (lawake_any w0)
    go_wp2_with fail
    refine AW.out.mono ?_
    rintro e w1 ⟨rfl, hb⟩
    have HB := hide hb
    clear hb AW
    go_wp2
    go_ret
    exact ⟨rfl, HB.out⟩
  | true =>
    obtain ⟨h15, hs150⟩ := HF.out rfl
    have NW := hide (new_h 1048576 w0 (by omega) 1048576 rfl)
    clear HF
    go_wp2_with fail
    refine NW.out.mono ?_
    rintro e w1 ⟨R, rfl, H1, B1⟩
    have LN := hide (lnew_ok nm7 pk_new H1 (by decide) (by decide))
    have HB1 := hide B1
    clear H1 B1 NW
    go_wp2_with fail
    refine LN.out.mono ?_
    rintro e w2 ⟨L, rfl, hL, hlo, hs2⟩
    have SD := hide (syncDir_h pk_dir hlo.held (by decide))
    have HB2 := hide (HB1.out.trans (hs2.below (fun i hi => hi)))
    have hLw := hide (Nat.le_trans HB1.out.size hL)
    have HLO := hide hlo
    clear hlo hs2 LN HB1 hL
    go_wp2_with fail
    refine SD.out.mono ?_
    rintro e w3 ⟨rfl, H3, S3⟩
    have HP0 : Hid (Pl w0 w3 L R (.slice none 0 0) [] [] 0 2 0) := hide ⟨HB2.out.trans (S3.below (fun i hi => .inl hi)), ⟨fun i => i < w0.heap.size ∨ i = L, ⟨S3.blk HLO.out.blk (.inr rfl), H3, .inr rfl⟩, fun i hi => .inl hi, fun g hg => by cases hg⟩, ⟨[], World.ownsRow_nil _ _ _ _, by simp, rfl⟩, hLw.out⟩
    clear H3 S3 SD HLO HB2
    go_wp2_with fail
    go_loopw [12, 13, 14, 15] (fun dv s1 s2 i wr => ∃ (k k0 cc : Nat) (D : List (List It)), k ≤ n ∧ i = .int .i64 k ∧ s1 = .int .i64 k0 ∧ s2 = .int .i64 ((lg D).length : Nat) ∧
      Hid (k0 ≤ D.length ∧ D.length ≤ k ∧ cc ≤ 2 + 2 * k ∧ D.flatten.length ≤ sumL (zs.take k) ∧ ∀ l ∈ D, Bg l) ∧ Hid (Pl w0 wr L R dv D D k0 cc 0)) (fun _ _ _ i _ => n - (intOf i).toNat)
    case atStart => exact ⟨0, 0, 2, [], by omega, rfl, rfl, rfl, hide ⟨by simp, by simp, by omega, by simp, by simp⟩, HP0⟩
    case round =>
      obtain ⟨k, k0, cc, D, hk, rfl, rfl, rfl, HD, HPL⟩ := hrel
      have hSD := HSL.out k
      have hlD := lg_len D
      have hD0 := HD.out
      have hSZ6 : (lg D).length ≤ 6000 := by omega
      have hdl : D.length ≤ 15 := by omega
      by_cases hlt : k < n
      · obtain ⟨z, b0, off0, hz, ea, hc0, hi0, hn0⟩ := HI0.out k hlt
        subst ea
        have hst := hide (HST.out k z hz)
        have hSD1 := HSL.out (k + 1)
        have hcl := hide (fun W (hW : Below w0.heap.size w0 W) => (hW.cell (p := ⟨b0, off0 + k, none⟩) (World.block_lt_of_cell? w0 _ hc0)).trans hc0)
        have hIz := hide (fun W (hW : Below w0.heap.size w0 W) => hi0.below hW (Nat.le_refl _))
        have hzw := hide hi0.2.2.1
        have hzl := hide hi0.1
        have HI0w := hide hi0
        obtain ⟨za, zn, zc, zl⟩ := z
        simp only at hcl hIz hzw hzl hn0 hst HI0w
        rw [hst.out] at hSD1
        clear hc0 hi0 hz hD0 hlD hSD
        obtain ⟨V, hV⟩ : ∃ V, bmay zl = V := ⟨_, rfl⟩
        have HV := hide hV
        clear hV
        obtain ⟨SZ, hSZ⟩ : ∃ SZ, (lg D).length = SZ := ⟨_, rfl⟩
        have HSZ := hide hSZ
        rw [hSZ] at hSZ6
        rw [hSZ]
        clear hSZ
        by_cases hφk : φ = k
        · have hφi : (φ : Int) = (k : Int) := by omega
          have FA := hide (pfail_any 1 (by omega) HPL.out)
          clear HPL
          go_wp2_with fail
          refine FA.out.mono ?_
          rintro e w4 ⟨rfl, hp4⟩
          have P4 := hide hp4
          clear hp4 FA
          have M4 := hide (rmay_any za zn zc zl w4 (hIz.out _ P4.out.bel) hn0)
          rw [HV.out] at M4
          have hc4 := hcl.out w4 P4.out.bel
          go_wp2_with fail
          refine M4.out.mono ?_
          rintro e w5 ⟨rfl, hb5⟩
          have P5 := hide (P4.out.below hb5)
          have hc5 := hcl.out w5 P5.out.bel
          clear hb5 M4 hc4 P4
          by_cases hV0 : V = 0
          · subst hV0
            have HGD := hide (bg_of hzw.out HV.out)
            have PT := hide (pput_full P5.out za zn zc zl (hIz.out _ P5.out.bel) HGD.out (by have := HD.out.2.2.1; omega) (by rw [HSZ.out]; omega) (by omega))
            go_wp2_with fail
            refine PT.out.mono ?_
            rintro e w6 ⟨rfl, hp6⟩
            have P6 := hide hp6
            have FL := hide (pfail_any 0 (by omega) P6.out)
            clear hp6 PT P5 hc5
            go_wp2_with fail
            refine FL.out.mono ?_
            rintro e w7 ⟨rfl, hp7⟩
            have HP := hide hp7
            clear hp7 FL P6
            obtain ⟨ys5, hor5, -, hym5⟩ := HP.out.ors
            obtain ⟨da, dc, hdv, -, -⟩ := hor5.rws
            have hyl : ys5.length = (D).length := by rw [← hym5, List.length_map]
            rw [hyl] at hdv
            obtain ⟨GN, hGN⟩ : ∃ GN, (D).length = GN := ⟨_, rfl⟩
            rw [hGN] at hdv
            have HFA := hide (show k0 ≤ (D).length ∧ (D).length ≤ k + 1 ∧ (cc + 1) ≤ 2 + 2 * (k + 1) - 1 ∧ (D).flatten.length ≤ sumL (zs.take (k + 1)) ∧ ∀ l ∈ D, Bg l from ⟨by have := HD.out.1; omega, by have := HD.out.2.1; omega, by have := HD.out.2.2.1; omega, by rw [hst.out]; have := HD.out.2.2.2.1; omega, HD.out.2.2.2.2⟩)
            have SI := hide (psize_any HP.out)
            have CT := hide (pcount_any HP.out)
            have SY := hide (psync_any HP.out (by have := HFA.out.2.2.1; omega))
            rw [hGN] at CT SY
            rw [HSZ.out] at SI
            have HGN := hide hGN
            have hg15 : GN ≤ 15 := by have := HFA.out.2.1; omega
            have HSZE := hide (HSZ.out)
            clear hor5 hym5 hyl hGN
            subst hdv
            go_wp2_with fail
            refine SI.out.mono ?_
            rintro e w8 ⟨rfl, rfl⟩
            go_wp2_with fail
            refine CT.out.mono ?_
            rintro e w9 ⟨rfl, rfl⟩
            clear SI CT
            go_wp2_with (first
              | (go_at_call 15; refine SY.out.mono ?_; rintro e w10 ⟨rfl, hp10⟩)
              | fail)
            all_goals first
              | (have P10 := hide hp10
                 clear hp10 SY
                 go_wp2
                 go_roundw
                 case rel => exact ⟨k + 1, GN, (cc + 1) + 1, D, by omega, by go_num, rfl, by rw [HSZE.out], hide ⟨by rw [HGN.out]; exact Nat.le_refl _, HFA.out.2.1, by have := HFA.out.2.2.1; omega, HFA.out.2.2.2⟩, P10⟩
                 case measure => simp [intOf]; omega)
              | (clear SY
                 go_wp2
                 go_roundw
                 case rel => exact ⟨k + 1, k0, (cc + 1), D, by omega, by go_num, rfl, by rw [HSZE.out], hide ⟨HFA.out.1, HFA.out.2.1, by have := HFA.out.2.2.1; omega, HFA.out.2.2.2⟩, HP⟩
                 case measure => simp [intOf]; omega)
          · have hVb : (V == 0) = false := by simpa using hV0
            have hVn : ¬ ((V : Int) = 0) := hV0
            have PT := hide (pput_bad P5.out za zn zc zl (hIz.out _ P5.out.bel) hn0 V HV.out hV0)
            go_wp2_with fail
            refine PT.out.mono ?_
            rintro e w6 ⟨rfl, hp6⟩
            have P6 := hide hp6
            have FL := hide (pfail_any 0 (by omega) P6.out)
            clear hp6 PT P5 hc5
            go_wp2_with fail
            refine FL.out.mono ?_
            rintro e w7 ⟨rfl, hp7⟩
            have HP := hide hp7
            clear hp7 FL P6
            obtain ⟨ys5, hor5, -, hym5⟩ := HP.out.ors
            obtain ⟨da, dc, hdv, -, -⟩ := hor5.rws
            have hyl : ys5.length = (D).length := by rw [← hym5, List.length_map]
            rw [hyl] at hdv
            obtain ⟨GN, hGN⟩ : ∃ GN, (D).length = GN := ⟨_, rfl⟩
            rw [hGN] at hdv
            have HFA := hide (show k0 ≤ (D).length ∧ (D).length ≤ k + 1 ∧ cc ≤ 2 + 2 * (k + 1) - 1 ∧ (D).flatten.length ≤ sumL (zs.take (k + 1)) ∧ ∀ l ∈ D, Bg l from ⟨by have := HD.out.1; omega, by have := HD.out.2.1; omega, by have := HD.out.2.2.1; omega, by rw [hst.out]; have := HD.out.2.2.2.1; omega, HD.out.2.2.2.2⟩)
            have SI := hide (psize_any HP.out)
            have CT := hide (pcount_any HP.out)
            have SY := hide (psync_any HP.out (by have := HFA.out.2.2.1; omega))
            rw [hGN] at CT SY
            rw [HSZ.out] at SI
            have HGN := hide hGN
            have hg15 : GN ≤ 15 := by have := HFA.out.2.1; omega
            have HSZE := hide (HSZ.out)
            clear hor5 hym5 hyl hGN
            subst hdv
            go_wp2_with fail
            refine SI.out.mono ?_
            rintro e w8 ⟨rfl, rfl⟩
            go_wp2_with fail
            refine CT.out.mono ?_
            rintro e w9 ⟨rfl, rfl⟩
            clear SI CT
            go_wp2_with (first
              | (go_at_call 15; refine SY.out.mono ?_; rintro e w10 ⟨rfl, hp10⟩)
              | fail)
            all_goals first
              | (have P10 := hide hp10
                 clear hp10 SY
                 go_wp2
                 go_roundw
                 case rel => exact ⟨k + 1, GN, cc + 1, D, by omega, by go_num, rfl, by rw [HSZE.out], hide ⟨by rw [HGN.out]; exact Nat.le_refl _, HFA.out.2.1, by have := HFA.out.2.2.1; omega, HFA.out.2.2.2⟩, P10⟩
                 case measure => simp [intOf]; omega)
              | (clear SY
                 go_wp2
                 go_roundw
                 case rel => exact ⟨k + 1, k0, cc, D, by omega, by go_num, rfl, by rw [HSZE.out], hide ⟨HFA.out.1, HFA.out.2.1, by have := HFA.out.2.2.1; omega, HFA.out.2.2.2⟩, HP⟩
                 case measure => simp [intOf]; omega)
        · have hφi : ¬ ((φ : Int) = (k : Int)) := by omega
          have hφb : ((φ : Int) == (k : Int)) = false := by simpa using hφi
          have M4 := hide (rmay_any za zn zc zl wr (hIz.out _ HPL.out.bel) hn0)
          rw [HV.out] at M4
          have hc4 := hcl.out wr HPL.out.bel
          go_wp2_with fail
          refine M4.out.mono ?_
          rintro e w5 ⟨rfl, hb5⟩
          have P5 := hide (HPL.out.below hb5)
          have hc5 := hcl.out w5 P5.out.bel
          clear hb5 M4 hc4 HPL
          by_cases hV0 : V = 0
          · subst hV0
            have HGD := hide (bg_of hzw.out HV.out)
            obtain ⟨NB, hNB⟩ : ∃ NB, (bt zl).length = NB := ⟨_, rfl⟩
            have hla : (lg (D ++ [zl])).length = SZ + NB := by rw [lg_app, List.length_append, HSZ.out]; simp [lg, hNB]
            have hNb : NB ≤ 6000 := by
              have h1 := lg_len (D ++ [zl])
              have h2 := HD.out
              rw [hla, flat_snoc, List.length_append, List.length_singleton] at h1
              omega
            have HLA := hide hla
            have HNB := hide hNB
            clear hla hNB
            have PT := hide (pput_ok P5.out za zn zc zl (hIz.out _ P5.out.bel) HGD.out (by have := HD.out.2.2.1; omega) (by rw [HSZ.out, HNB.out]; omega) (by omega) HD.out.1)
            go_wp2_with fail
            refine PT.out.mono ?_
            rintro e w6 ⟨rfl, hp6⟩
            have P6 := hide hp6
            have FL := hide (pfail_any 0 (by omega) P6.out)
            clear hp6 PT P5 hc5
            go_wp2_with fail
            refine FL.out.mono ?_
            rintro e w7 ⟨rfl, hp7⟩
            have HP := hide hp7
            clear hp7 FL P6
            obtain ⟨ys4, hor4, hyi4, hym4⟩ := HP.out.ors
            have hyl4 : Hid (ys4.length ≤ 1000000) := hide (by have := congrArg List.length hym4; rw [List.length_map] at this; omega)
            have HOR4 := hide hor4
            have HYI4 := hide hyi4
            have HYM4 := hide hym4
            have hc7 := hcl.out w7 HP.out.bel
            have HIz7 := hide (hIz.out w7 HP.out.bel)
            have HAP := hide (show 0 < zn → ∀ x, za = some x → u12.ownBlock ≠ some x.block from fun h0 x hx e => by
              have h1 := (World.ownsRow.lt HOR4.out.own _ e).1
              have h2 := is_lt HI0w.out h0 x hx
              omega)
            clear hor4 hyi4 hym4
            go_wp2_with (first
              | (at_builtin; refine wpList_append_row rfl (.tmp 90) (.tmp 95) rfl w0.heap.size u12 ys4 rfl HOR4.out ⟨za, zn, zc, zl⟩ rfl rfl HIz7.out hn0 HAP.out hyl4.out HP.out.bel.size ?_)
              | fail)
            intro dv' w8 ho8 hg8 hb8 hl8
            have HP8 := hide (HP.out.grow (z := ⟨za, zn, zc, zl⟩) HI0w.out hn0 HYM4.out HYI4.out ho8 hg8 hl8 hb8)
            have hc8 := hcl.out w8 HP8.out.bel
            have RB := hide (rbatch_any za zn zc zl w8 (hIz.out _ HP8.out.bel) HGD.out)
            have hsb : (strOfNums (bt zl)).size = NB := by rw [str_size, HNB.out]
            clear ho8 hg8 hb8 hl8 hc7 HIz7 HAP HOR4 HYI4 HYM4 HP
            generalize strOfNums (bt zl) = SB at *
            go_wp2_with fail
            refine RB.out.mono ?_
            rintro e w8' ⟨rfl, hb8'⟩
            have HP := hide (HP8.out.below hb8')
            clear hb8' RB HP8 hc8
            obtain ⟨ys5, hor5, -, hym5⟩ := HP.out.ors
            obtain ⟨da, dc, hdv, -, -⟩ := hor5.rws
            have hyl : ys5.length = (D ++ [zl]).length := by rw [← hym5, List.length_map]
            rw [hyl] at hdv
            obtain ⟨GN, hGN⟩ : ∃ GN, (D ++ [zl]).length = GN := ⟨_, rfl⟩
            rw [hGN] at hdv
            have HFA := hide (show k0 ≤ (D ++ [zl]).length ∧ (D ++ [zl]).length ≤ k + 1 ∧ (cc + 1) ≤ 2 + 2 * (k + 1) - 1 ∧ (D ++ [zl]).flatten.length ≤ sumL (zs.take (k + 1)) ∧ ∀ l ∈ D ++ [zl], Bg l from ⟨by rw [List.length_append]; have := HD.out.1; omega, by rw [List.length_append, List.length_singleton]; have := HD.out.2.1; omega, by have := HD.out.2.2.1; omega, by rw [hst.out, flat_snoc]; have := HD.out.2.2.2.1; omega, fun l hl => by rcases List.mem_append.1 hl with e | e; exact HD.out.2.2.2.2 l e; rw [List.mem_singleton.1 e]; exact HGD.out⟩)
            have SI := hide (psize_any HP.out)
            have CT := hide (pcount_any HP.out)
            have SY := hide (psync_any HP.out (by have := HFA.out.2.2.1; omega))
            rw [hGN] at CT SY
            rw [HLA.out] at SI
            have HGN := hide hGN
            have hg15 : GN ≤ 15 := by have := HFA.out.2.1; omega
            have HSZE := hide (HLA.out)
            clear hor5 hym5 hyl hGN
            subst hdv
            go_wp2_with fail
            refine SI.out.mono ?_
            rintro e w8 ⟨rfl, rfl⟩
            go_wp2_with fail
            refine CT.out.mono ?_
            rintro e w9 ⟨rfl, rfl⟩
            clear SI CT
            go_wp2_with (first
              | (go_at_call 15; refine SY.out.mono ?_; rintro e w10 ⟨rfl, hp10⟩)
              | fail)
            all_goals first
              | (have P10 := hide hp10
                 clear hp10 SY
                 go_wp2
                 go_roundw
                 case rel => exact ⟨k + 1, GN, (cc + 1) + 1, D ++ [zl], by omega, by go_num, rfl, by rw [HSZE.out]; simp, hide ⟨by rw [HGN.out]; exact Nat.le_refl _, HFA.out.2.1, by have := HFA.out.2.2.1; omega, HFA.out.2.2.2⟩, P10⟩
                 case measure => simp [intOf]; omega)
              | (clear SY
                 go_wp2
                 go_roundw
                 case rel => exact ⟨k + 1, k0, (cc + 1), D ++ [zl], by omega, by go_num, rfl, by rw [HSZE.out]; simp, hide ⟨HFA.out.1, HFA.out.2.1, by have := HFA.out.2.2.1; omega, HFA.out.2.2.2⟩, HP⟩
                 case measure => simp [intOf]; omega)
          · have hVb : (V == 0) = false := by simpa using hV0
            have hVn : ¬ ((V : Int) = 0) := hV0
            have PT := hide (pput_bad P5.out za zn zc zl (hIz.out _ P5.out.bel) hn0 V HV.out hV0)
            go_wp2_with fail
            refine PT.out.mono ?_
            rintro e w6 ⟨rfl, hp6⟩
            have P6 := hide hp6
            have FL := hide (pfail_any 0 (by omega) P6.out)
            clear hp6 PT P5 hc5
            go_wp2_with fail
            refine FL.out.mono ?_
            rintro e w7 ⟨rfl, hp7⟩
            have HP := hide hp7
            clear hp7 FL P6
            obtain ⟨ys5, hor5, -, hym5⟩ := HP.out.ors
            obtain ⟨da, dc, hdv, -, -⟩ := hor5.rws
            have hyl : ys5.length = (D).length := by rw [← hym5, List.length_map]
            rw [hyl] at hdv
            obtain ⟨GN, hGN⟩ : ∃ GN, (D).length = GN := ⟨_, rfl⟩
            rw [hGN] at hdv
            have HFA := hide (show k0 ≤ (D).length ∧ (D).length ≤ k + 1 ∧ cc ≤ 2 + 2 * (k + 1) - 1 ∧ (D).flatten.length ≤ sumL (zs.take (k + 1)) ∧ ∀ l ∈ D, Bg l from ⟨by have := HD.out.1; omega, by have := HD.out.2.1; omega, by have := HD.out.2.2.1; omega, by rw [hst.out]; have := HD.out.2.2.2.1; omega, HD.out.2.2.2.2⟩)
            have SI := hide (psize_any HP.out)
            have CT := hide (pcount_any HP.out)
            have SY := hide (psync_any HP.out (by have := HFA.out.2.2.1; omega))
            rw [hGN] at CT SY
            rw [HSZ.out] at SI
            have HGN := hide hGN
            have hg15 : GN ≤ 15 := by have := HFA.out.2.1; omega
            have HSZE := hide (HSZ.out)
            clear hor5 hym5 hyl hGN
            subst hdv
            go_wp2_with fail
            refine SI.out.mono ?_
            rintro e w8 ⟨rfl, rfl⟩
            go_wp2_with fail
            refine CT.out.mono ?_
            rintro e w9 ⟨rfl, rfl⟩
            clear SI CT
            go_wp2_with (first
              | (go_at_call 15; refine SY.out.mono ?_; rintro e w10 ⟨rfl, hp10⟩)
              | fail)
            all_goals first
              | (have P10 := hide hp10
                 clear hp10 SY
                 go_wp2
                 go_roundw
                 case rel => exact ⟨k + 1, GN, cc + 1, D, by omega, by go_num, rfl, by rw [HSZE.out], hide ⟨by rw [HGN.out]; exact Nat.le_refl _, HFA.out.2.1, by have := HFA.out.2.2.1; omega, HFA.out.2.2.2⟩, P10⟩
                 case measure => simp [intOf]; omega)
              | (clear SY
                 go_wp2
                 go_roundw
                 case rel => exact ⟨k + 1, k0, cc, D, by omega, by go_num, rfl, by rw [HSZE.out], hide ⟨HFA.out.1, HFA.out.2.1, by have := HFA.out.2.2.1; omega, HFA.out.2.2.2⟩, HP⟩
                 case measure => simp [intOf]; omega)
      · obtain rfl : k = n := by omega
        clear hlt hk hSD hlD
        have CR := hide (pcrash_any ke HKE.out HPL.out (by omega))
        have hgd := hide hD0.2.2.2.2
        have hk0 := hD0.1
        have hcc := hD0.2.2.1
        obtain ⟨ys5, hor5, -, hym5⟩ := HPL.out.ors
        obtain ⟨da, dc, hdv, hrw5, hdcm⟩ := hor5.rws
        have hyl : ys5.length = D.length := by rw [← hym5, List.length_map]
        rw [hyl] at hdv hrw5
        have hdc := hrw5.2.1.1
        obtain ⟨GN, hGN⟩ : ∃ GN, D.length = GN := ⟨_, rfl⟩
        rw [hGN] at hdv hdc hk0 hdl
        have HGN := hide hGN
        have HSZ6 := hide hSZ6
        generalize (lg D).length = SZ0 at hSZ6 ⊢
        clear hor5 hym5 hyl hrw5 HPL HD hD0 hGN HI0 HST HSL HP0
        subst hdv
        go_wp2_with fail
        refine CR.out.mono ?_
        rintro e w4 ⟨rfl, K, hK1, hK2, hpc⟩
        have HPC := hide hpc
        obtain ⟨nw, hn1, hn2, hn3, hrp⟩ := whole_cut D hgd.out K k0 hK2 (by rw [HGN.out]; exact hk0) hK1
        rw [HGN.out] at hn1
        have HXL := hide (show ((lg D).take K).length = K by rw [List.length_take]; omega)
        have hK6 : K ≤ 6000 := Nat.le_trans hK2 HSZ6.out
        obtain ⟨F, hF1, hF2, hF3⟩ := hpc.held
        have HH := hide hF1
        have HFW := hide hF2
        have HRP := hide hrp
        have HXR := hide (ByteL.take (lg_range D hgd.out) K)
        have HEN := hide (fun j (hj : j < nw) l (hl : (D.take nw)[j]? = some l) => en_succ D j l (by rw [List.getElem?_take, if_pos hj] at hl; exact hl))
        have HGDX := hide (fun l (hl : l ∈ D.take nw) => hgd.out l (List.mem_of_mem_take hl))
        have HE0 := hide (en_zero D)
        have HMN := hide (fun j (hj : j ≤ nw) => en_mono D j nw hj)
        have HTL := hide (show (D.take nw).length = nw by rw [List.length_take, HGN.out]; omega)
        clear hpc hF1 hF2 hF3 hrp CR hK1 hK2 hgd
        generalize hXX : (lg D).take K = X at *
        clear hXX
        have RD := hide (read_h nm7 (pk_read cc K 0 X) HH.out (by decide))
        go_wp2_with fail
        refine RD.out.mono ?_
        rintro e w5 ⟨bo, bcap, rfl, -, h5, hb5⟩
        rw [HXL.out]
        have HH5 := hide h5
        have HPC5 := hide (HPC.out.below hb5)
        clear h5 hb5 RD HH HPC
        obtain ⟨E1, hE1⟩ : ∃ E1, en D nw = E1 := ⟨_, rfl⟩
        obtain ⟨t, ht⟩ : ∃ t, decide (E1 < K) = t := ⟨_, rfl⟩
        rw [hE1] at hn3
        have OP := hide (lopen_ok nm7 (pk_read cc K 0 X) HH5.out (by decide) (by rw [HXL.out]; omega) HXR.out (by rw [HRP.out]) K E1 HXL.out (by rw [HRP.out]; exact hE1) t ht)
        rw [HRP.out] at OP
        have HE1 := hide hE1
        clear hE1
        go_wp2_with fail
        refine OP.out.mono ?_
        rintro e w6 ⟨L2, v6, ys6, rfl, hL2, hlo6, hor6, hym6, -, hb6⟩
        replace hym6 : ys6.map Sl.l = D.take nw := hym6
        have hl6 : ys6.length = nw := by rw [← HTL.out, ← hym6, List.length_map]
        rw [hl6] at hlo6
        have HPC6 := hide (HPC5.out.below hb6)
        obtain ⟨a6, c6, rfl, hrw6, hcm6⟩ := hor6.rws
        rw [hl6] at hrw6 ⊢
        have HLO6 := hide hlo6
        have HRW6 := hide hrw6
        have HYM6 := hide hym6
        have hLw2 := hide (show w0.heap.size ≤ L2 from Nat.le_trans HPC5.out.bel.size hL2)
        obtain ⟨ysd, hrwd, hymd⟩ := HPC6.out.rws
        have SM := hide (lsame_any a6 da nw c6 nw dc ys6 (ysd.take nw) w6 hrw6 (hrwd.take nw hn1) (by omega) (by omega))
        rw [show eqLL (ys6.map Sl.l) ((ysd.take nw).map Sl.l) = true by rw [hym6, List.map_take, hymd]; exact eqLL_refl _] at SM
        have hn15 : nw ≤ 15 := by omega
        have g1 : decide (nw < k0) = false := decide_eq_false (by omega)
        have g2 : decide (GN < nw) = false := decide_eq_false (by omega)
        clear hlo6 hor6 hym6 hb6 hrw6 hrwd hymd OP HH5 HPC5 hL2 hl6
        go_wp2_with fail
        refine SM.out.mono ?_
        rintro e w7 ⟨rfl, hb7⟩
        have HLO4 := hide (HLO6.out.below hb7)
        have HPC4 := hide (HPC6.out.below hb7)
        have HB4 := hide HPC4.out.bel
        have HRX := hide (HRW6.out.below hb7 (Nat.le_refl _))
        clear hb7 SM HLO6 HPC6 HRW6
        have HYI := hide y9_is
        have HYG := hide y9_bg
        have hYL := y9_len
        generalize hYY : [y9] = Y at *
        clear hYY
        go_wp2_with fail
        go_loopw [22, 23] (fun s1 s2 wq => Hid (Er D nw w7 wq s1 s2)) (fun _ s2 _ => nw - (intOf s2).toNat)
        case atStart => exact hide ⟨0, 0, by omega, rfl, rfl, by omega, HE0.out, Below.refl _ _⟩
        case round =>
          obtain ⟨j, E, hj, rfl, rfl, hE6, hE, hbw⟩ := hrel.out
          replace hE := hide hE
          replace hbw := hide hbw
          clear hrel
          obtain ⟨wq, hwq⟩ : ∃ wq, wq = wr := ⟨_, rfl⟩
          rw [← hwq] at hbw ⊢
          clear hwq
          by_cases hjn : j < nw
          · obtain ⟨z, b1, off1, hz, ea, hc1, hi1, hn1'⟩ := rws_at (HRX.out.below hbw.out (Nat.le_refl _)) j hjn
            subst ea
            have hzl : (D.take nw)[j]? = some z.l := by rw [← HYM6.out]; simp [hz]
            have hg := HGDX.out z.l (List.mem_of_getElem? hzl)
            have hes := HEN.out j hjn z.l hzl
            have hmn := HMN.out (j + 1) (by omega)
            rw [HE1.out, hes, hE.out] at hmn
            rw [hE.out] at hes
            have RB := hide (rbatch_any z.a z.n z.c z.l wq hi1 hg)
            obtain ⟨NB, hNB⟩ : ∃ NB, (bt z.l).length = NB := ⟨_, rfl⟩
            have hsb : (strOfNums (bt z.l)).size = NB := by rw [str_size, hNB]
            rw [hNB] at hes hmn
            have HES := hide hes
            obtain ⟨za, zn, zc, zl⟩ := z
            simp only at hc1 RB hsb
            generalize strOfNums (bt zl) = SB at *
            clear hz hzl hg hes hi1 hNB
            go_wp2_with fail
            refine RB.out.mono ?_
            rintro e w8 ⟨rfl, hb8⟩
            have HB8 := hide (bmore hbw.out hb8)
            clear hb8 RB hc1
            go_wp2
            go_roundw
            case rel =>
              first
              | exact hide ⟨j + 1, E + NB, by omega, by go_num, by first | go_num | simp, by omega, HES.out, HB8.out⟩
              | ((repeat apply Exists.intro); exact ⟨hide ⟨j + 1, E + NB, by omega, by go_num, by first | go_num | simp, by omega, HES.out, HB8.out⟩, rfl⟩)
            case measure => simp [intOf]; omega
          · obtain rfl : j = nw := by omega
            have hEE : E = E1 := by rw [← hE.out]; exact HE1.out
            subst hEE
            clear hE hjn hj
            by_cases hEK : E = K
            · skip
              have hEi : (E : Int) = (K : Int) := by omega
              obtain rfl : t = false := by rw [← ht]; exact decide_eq_false (by omega)
              clear ht
              have HLO6 := hide (HLO4.out.below hbw.out)
              have HPC6 := hide (HPC4.out.below hbw.out)
              have A0 := (Below.refl _ wq).alloc (Nat.le_refl _) (Obj.cells #[Value.int IntKind.i64 9, Value.int IntKind.i64 1, Value.int IntKind.u64 0, Value.int IntKind.u64 9, Value.int IntKind.i64 0] 48)
              have HY := hide (HYI.out wq)
              have HB7 := hide (bmore (bmore HB4.out hbw.out) A0)
              have HLO7 := hide (HLO6.out.below A0)
              have HPC7 := hide (HPC6.out.below A0)
              clear HLO6 HPC6 hbw HLO4 HPC4 HB4 HRX
              have PT := hide (lput_any HLO7.out _ 1 1 Y HY.out HYG.out (pk_app cc K X (bt Y) (by rw [HXL.out]; omega)) (by show cc < 1099511627776; omega) (by decide) (by omega) (by omega))
              clear A0
              go_wp2_with fail
              refine PT.out.mono ?_
              rintro e w8 ⟨rfl, hl8, hs8⟩
              have SY := hide (lsync_any hl8 (pk_sync (cc + 1) K (X ++ bt Y)) (by show cc + 1 < 1099511627776; omega) (by decide))
              have HB8 := hide (HB7.out.trans (hs8.below (fun i hi => ⟨.inl (HFW.out i hi), by have := hLw2.out; omega⟩)))
              clear hl8 hs8 PT HLO7 HPC7 HB7
              go_wp2_with fail
              refine SY.out.mono ?_
              rintro e w9 ⟨rfl, hl9, hs9⟩
              have HB9 := hide (HB8.out.trans (hs9.below (fun i hi => .inl (HFW.out i hi))))
              have RD := hide (read_h nm7 (pk_read (cc + 2) (X ++ bt Y).length 0 (X ++ bt Y)) hl9.held (by decide))
              clear hl9 hs9 SY HB8
              generalize (X ++ bt Y).length = XL at *
              go_wp2_with fail
              refine RD.out.mono ?_
              rintro e w10 ⟨ao, cap, rfl, -, -, hb10⟩
              have HB10 := hide (bmore HB9.out hb10)
              have AW := hide (lawake_any w10)
              clear hb10 RD HB9
              go_wp2_with fail
              refine AW.out.mono ?_
              rintro e w11 ⟨rfl, hb⟩
              have HBE := hide (bmore HB10.out hb)
              clear hb AW
              go_wp2
              go_ret
              exact ⟨rfl, HBE.out⟩
            · skip
              have hEi : ¬ ((E : Int) = (K : Int)) := by omega
              obtain rfl : t = true := by rw [← ht]; exact decide_eq_true (by omega)
              clear ht
              have HLO6 := hide (HLO4.out.below hbw.out)
              have HPC6 := hide (HPC4.out.below hbw.out)
              have A0 := (Below.refl _ wq).alloc (Nat.le_refl _) (Obj.cells #[Value.int IntKind.i64 9, Value.int IntKind.i64 1, Value.int IntKind.u64 0, Value.int IntKind.u64 9, Value.int IntKind.i64 0] 48)
              have HY := hide (HYI.out wq)
              have HB7 := hide (bmore (bmore HB4.out hbw.out) A0)
              have HLO7 := hide (HLO6.out.below A0)
              have HPC7 := hide (HPC6.out.below A0)
              clear HLO6 HPC6 hbw HLO4 HPC4 HB4 HRX
              have PT := hide (lput_torn HLO7.out (.slice (some ⟨wq.heap.size, 0, none⟩) 1 1))
              have SY := hide (lsync_torn HLO7.out)
              have RD := hide (read_h nm7 (pk_read cc K 0 X) HLO7.out.held (by decide))
              rw [HXL.out] at RD
              clear A0
              go_wp2_with fail
              refine PT.out.mono ?_
              rintro e w8 ⟨rfl, rfl⟩
              go_wp2_with fail
              refine SY.out.mono ?_
              rintro e w9 ⟨rfl, rfl⟩
              clear PT SY
              go_wp2_with fail
              refine RD.out.mono ?_
              rintro e w10 ⟨ao, cap, rfl, -, -, hb10⟩
              have HB10 := hide (bmore HB7.out hb10)
              have AW := hide (lawake_any w10)
              clear hb10 RD HB7 HLO7 HPC7
              go_wp2_with fail
              refine AW.out.mono ?_
              rintro e w11 ⟨rfl, hb⟩
              have HBE := hide (bmore HB10.out hb)
              clear hb AW
              go_wp2
              go_ret
              exact ⟨rfl, HBE.out⟩

end Go.Proofs.YtdldpdllhnpdaaaGreat.Clep
