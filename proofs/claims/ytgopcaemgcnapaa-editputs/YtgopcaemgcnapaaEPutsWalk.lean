/- The statement EditPuts, walked: for any bytes and any Edit. No conditions. -/
import Derived.Test.YtgopcaemgcnapaaEPutP
import Derived.Test.YtgopcaemgcnapaaERefEdit
import Derived.Test.YtgopcaemgcnapaaEReadW
import Derived.Test.YtgopcaemgcnapaaEAwake
import Derived.Test.YtgopcaemgcnapaaESameE
import Derived.Test.YtgopcaemgcnapaaERm
import Derived.Test.YtgopcaemgcnapaaEEdits
namespace Go.Proofs.Ytgopcaemgcnapaa.Clep
open Go.RowKit
set_option linter.unusedVariables false
set_option maxRecDepth 10000

theorem rm_bs {w : World} {g cap : Nat} {zs : List Int} (h : Rm w g cap zs) : Bs w (some ⟨g, 0, none⟩) zs.length cap zs := ⟨rfl, ⟨h.le, fun e => by cases e⟩, range_of h.range, fun _ => ⟨g, 0, rfl, fun i hi => by rw [Nat.zero_add]; exact h.cell i hi⟩⟩
theorem emay_or (E : Ed) : emay E = 0 ∨ emay E = 1 := by unfold emay; split <;> simp

section
attribute [local go_sem ↓] cut_lh
set_option maxHeartbeats 4000000 in
theorem puts_walk (a0 : Option Addr) (n0 c0 : Nat) (zs : List Int) (y : Er) (w : World) (h0 : Bs w a0 n0 c0 zs ∧ n0 ≤ 9223372036854775807) (hy : y.ok w) :
    Calls Try.prog 5 #[.slice a0 n0 c0, .agg #[.slice y.da y.dn y.dc, .slice y.aa y.an y.ac, .int .i64 y.E.lg, .int .u64 y.E.fl, .int .u64 y.E.ct, .int .u64 y.E.at9, .int .u64 y.E.ls]] w fun e w' => e = .returned (.bool true) ∧ Below w.heap.size w w' := by
  obtain ⟨da, dn, dc, aa, an, ac, E⟩ := y
  obtain ⟨⟨hd, hdn⟩, ⟨ha, han⟩, hlg, hfl, hct, hat9, hls⟩ := hy
  simp only at hd hdn ha han hlg hfl hct hat9 hls ⊢
  have hu : 0 ≤ E.fl ∧ 0 ≤ E.ct ∧ 0 ≤ E.at9 ∧ 0 ≤ E.ls := ⟨hfl.1, hct.1, hat9.1, hls.1⟩
  have hn0 := h0.2
  have l0 := h0.1.1
  have HA := hide awake_any
  have CF := hide (fun W => few_any da aa dn dc an ac E W hdn han)
  obtain ⟨of, hof⟩ : ∃ o, decide (dn ≤ 60 ∧ an ≤ 60) = o := ⟨_, rfl⟩
  rw [hof] at CF
  have HYL := hide (show of = true → dn ≤ 60 ∧ an ≤ 60 from fun e => of_decide_eq_true (hof.trans e))
  have HZ := hide (fun W (hW : Below w.heap.size w W) => hd.below hW (Nat.le_refl _))
  have HF := hide (fun W (hW : Below w.heap.size w W) => ha.below hW (Nat.le_refl _))
  have HBs := hide (fun W (hW : Below w.heap.size w W) => h0.1.below hW (Nat.le_refl _))
  have CP := hide (fun W (hW : Below w.heap.size w W) (hn : n0 ≤ 1000) => eput_any a0 n0 c0 zs da dn dc aa an ac E W (HBs.out W hW) (by omega) (HZ.out W hW) (HF.out W hW) hdn han hu)
  have CM := hide (fun W (hW : Below w.heap.size w W) => editmay_any da dn dc aa an ac E W (HZ.out W hW) (HF.out W hW) hdn han)
  have CE := hide (fun W (hW : Below w.heap.size w W) (hm : emay E = 0) => redit_any da dn dc aa an ac E W (HZ.out W hW) (HF.out W hW) hm hu)
  have CS := hide (fun W (hW : Below w.heap.size w W) da' dc' aa' ac' (h1 : Zs W da' E.d.length dc' E.d) (h2 : Fs W aa' E.a.length ac' E.a) (l1 : E.d.length ≤ 40) (l2 : E.a.length ≤ 40) => (esame_any da' aa' da aa E.d.length dc' E.a.length ac' dn dc an ac E E W h1 h2 (HZ.out W hW) (HF.out W hW) (by omega) hdn (by omega) han).mono (R' := fun e w' => e = .returned (.bool true) ∧ Below W.heap.size W w') fun e w' ⟨o, he, ho, hb⟩ => ⟨by rw [he, ho.2 rfl], hb⟩)
  have HEL := hide (fun hm : emay E = 0 => ebd_len hm)
  have HER := hide (fun hm : emay E = 0 => ebd_range hm hu)
  have HRE := hide (fun hm : emay E = 0 => ebd_read hm hu)
  have HPT := hide (fun hm : emay E = 0 => (emay_parts hm).1)
  have HOR := emay_or E
  have HZR := hide (bs_range h0.1)
  unfold edV at CF CP CM CE CS
  clear hd ha hlg hfl hct hat9 hls hu hof h0
  have EC : True := trivial
  have A0 := (Below.refl w.heap.size w).alloc (Nat.le_refl _) (Obj.cells #[.slice da dn dc, .slice aa an ac, .int .i64 E.lg, .int .u64 E.fl, .int .u64 E.ct, .int .u64 E.at9, .int .u64 E.ls] 31)
  have HB0 := hide A0
  have HK := hide (show ∀ W, Below (w.heap.size + 1) (w.alloc (Obj.cells #[.slice da dn dc, .slice aa an ac, .int .i64 E.lg, .int .u64 E.fl, .int .u64 E.ct, .int .u64 E.at9, .int .u64 E.ls] 31)) W → Ek W w.heap.size #[.slice da dn dc, .slice aa an ac, .int .i64 E.lg, .int .u64 E.fl, .int .u64 E.ct, .int .u64 E.at9, .int .u64 E.ls] 31 from fun W hW => (ek_new w _ _).below hW (by omega))
  have HSA := hide (show (w.alloc (Obj.cells #[.slice da dn dc, .slice aa an ac, .int .i64 E.lg, .int .u64 E.fl, .int .u64 E.ct, .int .u64 E.at9, .int .u64 E.ls] 31)).heap.size = w.heap.size + 1 by simp)
  clear A0 EC
  by_cases hb : 1000 < n0
  · have q1 : (1000 : Int) < (n0 : Int) := by omega
    go_enter Try.func5, Try.ntmps5
    go_wp2_with (go_at_call 13; refine (HA.out _).mono ?_; rintro e w6 ⟨rfl, hb6⟩)
    go_ret
    exact ⟨rfl, HB0.out.trans (hb6.mono HB0.out.size)⟩
  · have q1 : ¬ ((1000 : Int) < (n0 : Int)) := by omega
    go_enter Try.func5, Try.ntmps5
    go_wp2_with fail
    generalize hwa : w.alloc (Obj.cells #[.slice da dn dc, .slice aa an ac, .int .i64 E.lg, .int .u64 E.fl, .int .u64 E.ct, .int .u64 E.at9, .int .u64 E.ls] 31) = wa at *
    clear hwa
    refine (CF.out _).mono ?_
    rintro e w1 ⟨rfl, hb1⟩
    have HB1 := hide (HB0.out.trans (hb1.mono HB0.out.size))
    have HC1 := hide (show Below (w.heap.size + 1) wa w1 from hb1.mono (by rw [HSA.out]; exact Nat.le_refl _))
    clear hb1 CF HB0
    cases of with
    | false =>
      go_wp2_with (go_at_call 13; refine (HA.out _).mono ?_; rintro e w6 ⟨rfl, hb6⟩)
      go_ret
      exact ⟨rfl, HB1.out.trans (hb6.mono HB1.out.size)⟩
    | true =>
      have hyl := HYL.out (by first | rfl | trivial)
      have k := HK.out w1 HC1.out
      have e0 : w1.cell? ⟨w.heap.size, 0, none⟩ = some (.slice da dn dc) := k.cell rfl
      have e1 : w1.cell? ⟨w.heap.size, 1, none⟩ = some (.slice aa an ac) := k.cell rfl
      have e2 : w1.cell? ⟨w.heap.size, 2, none⟩ = some (.int .i64 E.lg) := k.cell rfl
      have e3 : w1.cell? ⟨w.heap.size, 3, none⟩ = some (.int .u64 E.fl) := k.cell rfl
      have e4 : w1.cell? ⟨w.heap.size, 4, none⟩ = some (.int .u64 E.ct) := k.cell rfl
      have e5 : w1.cell? ⟨w.heap.size, 5, none⟩ = some (.int .u64 E.at9) := k.cell rfl
      have e6 : w1.cell? ⟨w.heap.size, 6, none⟩ = some (.int .u64 E.ls) := k.cell rfl
      have CP1 := hide (CP.out w1 HB1.out (by omega))
      clear k CP HYL
      go_wp2_with fail
      refine CP1.out.mono ?_
      rintro e w2 ⟨hr2, hb2⟩
      have HB2 := hide (HB1.out.trans (hb2.mono HB1.out.size))
      have hs1 : w.heap.size + 1 ≤ w1.heap.size := by rw [← HSA.out]; exact HC1.out.size
      have HC2 := hide (HC1.out.trans (hb2.mono hs1))
      have CM2 := hide (CM.out w2 HB2.out)
      clear CM CP1 e0 e1 e2 e3 e4 e5 e6 hb2
      have k := HK.out w2 HC2.out
      have e0 : w2.cell? ⟨w.heap.size, 0, none⟩ = some (.slice da dn dc) := k.cell rfl
      have e1 : w2.cell? ⟨w.heap.size, 1, none⟩ = some (.slice aa an ac) := k.cell rfl
      have e2 : w2.cell? ⟨w.heap.size, 2, none⟩ = some (.int .i64 E.lg) := k.cell rfl
      have e3 : w2.cell? ⟨w.heap.size, 3, none⟩ = some (.int .u64 E.fl) := k.cell rfl
      have e4 : w2.cell? ⟨w.heap.size, 4, none⟩ = some (.int .u64 E.ct) := k.cell rfl
      have e5 : w2.cell? ⟨w.heap.size, 5, none⟩ = some (.int .u64 E.at9) := k.cell rfl
      have e6 : w2.cell? ⟨w.heap.size, 6, none⟩ = some (.int .u64 E.ls) := k.cell rfl
      clear k
      rcases HOR with hm | hm
      · rw [if_pos hm] at hr2
        obtain ⟨v2, rfl, ho2⟩ := hr2
        rw [hm] at CM2
        have HM := hide hm
        have hEl := HEL.out hm
        have HERm := hide (HER.out hm)
        have hpt := HPT.out hm
        have HREm := hide (HRE.out hm)
        have HCEm := hide (fun W hW => CE.out W hW hm)
        have hFR : ByteL (fr 6 (ebd E)) := fr_range 6 (ebd E) (by omega) (by omega) (by omega) HERm.out
        obtain ⟨L, hL⟩ : ∃ L, (zs ++ fr 6 (ebd E)).length = L := ⟨_, rfl⟩
        obtain ⟨ax, cx, hvx, hcx⟩ := own_conv ho2 (cat_range HZR.out hFR) L hL
        subst hvx
        have HCX := hide hcx.out
        have hadd : ∀ W, (Op.stringOp .add (strOfNums zs) (strOfNums (fr 6 (ebd E)))).run Try.prog W = .ok (.string (strOfNums (zs ++ fr 6 (ebd E)))) W := fun W => by
          rw [← str_app]
          exact run_string_add_sum W _ _ (by rw [str_size, str_size, fr_len]; omega)
        have HADD := hide hadd
        have HFL := hide (fr_len 6 (ebd E))
        have HFB := hide (fr_body (ebd E) (by omega))
        have HFR := hide hFR
        clear hm ho2 hcx HEL HER HRE HPT CE hFR hL hadd
        go_wp2_with fail
        refine CM2.out.mono ?_
        rintro e w3 ⟨rfl, hb3⟩
        have HB3 := hide (HB2.out.trans (hb3.mono HB2.out.size))
        have hs2 : w.heap.size + 1 ≤ w2.heap.size := by rw [← HSA.out]; exact HC2.out.size
        have HC3 := hide (HC2.out.trans (hb3.mono hs2))
        have HB23 := hide hb3
        clear CM2 hb3 e0 e1 e2 e3 e4 e5 e6
        have k := HK.out w3 HC3.out
        have e0 : w3.cell? ⟨w.heap.size, 0, none⟩ = some (.slice da dn dc) := k.cell rfl
        have e1 : w3.cell? ⟨w.heap.size, 1, none⟩ = some (.slice aa an ac) := k.cell rfl
        have e2 : w3.cell? ⟨w.heap.size, 2, none⟩ = some (.int .i64 E.lg) := k.cell rfl
        have e3 : w3.cell? ⟨w.heap.size, 3, none⟩ = some (.int .u64 E.fl) := k.cell rfl
        have e4 : w3.cell? ⟨w.heap.size, 4, none⟩ = some (.int .u64 E.ct) := k.cell rfl
        have e5 : w3.cell? ⟨w.heap.size, 5, none⟩ = some (.int .u64 E.at9) := k.cell rfl
        have e6 : w3.cell? ⟨w.heap.size, 6, none⟩ = some (.int .u64 E.ls) := k.cell rfl
        clear k
        have CE3 := hide (HCEm.out w3 HB3.out)
        go_wp2_with fail
        refine CE3.out.mono ?_
        rintro e w4 ⟨rfl, hb4⟩
        have HB4 := hide (HB3.out.trans (hb4.mono HB3.out.size))
        have hs3 : w.heap.size + 1 ≤ w3.heap.size := Nat.le_trans hs2 HB23.out.size
        have HC4 := hide (HC3.out.trans (hb4.mono hs3))
        have HB24 := hide (HB23.out.trans (hb4.mono HB23.out.size))
        obtain ⟨cp, w5, hcv, hcpl, hb5, hrm⟩ := rm_str w4 (fr 6 (ebd E)) HFR.out (by rw [HFL.out]; unfold maxLen; omega)
        have HBS5 := hide (rm_bs hrm.out)
        have hcpm := hrm.out.max
        obtain ⟨F, hF⟩ : ∃ F, (fr 6 (ebd E)).length = F := ⟨_, rfl⟩
        have hF2 : F = (ebd E).length + 12 := by rw [← hF, HFL.out]
        rw [hF] at hcv hcpl HBS5
        have zsz : (strOfNums (fr 6 (ebd E))).size = F := by rw [str_size, hF]
        have hsub : IntKind.i64.wrap ((F : Int) - 4) = ((F - 4 : Nat) : Int) := by
          simp [IntKind.wrap, IntKind.bits, IntKind.signed]
          omega
        have hc8 : (8 : Int) ≤ ((F - 4 : Nat) : Int) := by omega
        have hc9 : ((F - 4 : Nat) : Int) ≤ (cp : Int) := by omega
        have hcut := HBS5.out.cut 8 (F - 4) (by omega) (by omega)
        rw [show F - 4 = 8 + (ebd E).length from by omega, HFB.out] at hcut
        obtain ⟨M, hM⟩ : ∃ M, (ebd E).length = M := ⟨_, rfl⟩
        rw [hM] at hcut hF2
        have hFM : F - 4 - 8 = M := by omega
        have hFM2 : 8 + M - 8 = M := by omega
        rw [hFM2] at hcut
        have CR := hide (read_any (cut (some ⟨w4.heap.size, 0, none⟩) cp 8) M (cp - 8) (ebd E) w5 (by omega) (by unfold maxLen at hcpm; omega) hcut)
        rw [HREm.out] at CR
        have HB5 := hide (HB4.out.trans (hb5.out.mono HB4.out.size))
        have hs4 : w.heap.size + 1 ≤ w4.heap.size := Nat.le_trans hs3 hb4.size
        have HC5 := hide (HC4.out.trans (hb5.out.mono hs4))
        have HB25 := hide (HB24.out.trans (hb5.out.mono HB24.out.size))
        have HMS := hide hM
        clear CE3 hb4 e0 e1 e2 e3 e4 e5 e6 hcut hF hM hF2 hb5 hrm HBS5
        go_wp2_with fail
        refine CR.out.mono ?_
        rintro e w6 ⟨hr6, hb6⟩
        obtain ⟨da', dc', aa', ac', rfl, hz6, hf6⟩ := hr6
        have hs5 : w.heap.size + 1 ≤ w5.heap.size := by rw [← HSA.out]; exact HC5.out.size
        have HB6 := hide (HB5.out.trans (hb6.mono HB5.out.size))
        have HC6 := hide (HC5.out.trans (hb6.mono hs5))
        have HB26 := hide (HB25.out.trans (hb6.mono HB25.out.size))
        have A7 := (Below.refl _ w6).alloc (Nat.le_refl _) (Obj.cells #[.slice da' E.d.length dc', .slice aa' E.a.length ac', .int .i64 E.lg, .int .u64 E.fl, .int .u64 E.ct, .int .u64 E.at9, .int .u64 E.ls] 31)
        have HB7 := hide (HB6.out.trans (A7.mono HB6.out.size))
        have HB27 := hide (HB26.out.trans (A7.mono HB26.out.size))
        have CS7 := hide (CS.out _ HB7.out da' dc' aa' ac' (hz6.below A7 (Nat.le_refl _)) (hf6.below A7 (Nat.le_refl _)) (by omega) (by omega))
        have p0 := HCX.out _ HB27.out
        have p1 := conv_bs (HBs.out _ HB7.out)
        have hadd := HADD.out
        have hl6 : w.heap.size < w6.heap.size := (HK.out w6 HC6.out).lt
        have k := HK.out w6 HC6.out
        have e0 : w6.cell? ⟨w.heap.size, 0, none⟩ = some (.slice da dn dc) := k.cell rfl
        have e1 : w6.cell? ⟨w.heap.size, 1, none⟩ = some (.slice aa an ac) := k.cell rfl
        have e2 : w6.cell? ⟨w.heap.size, 2, none⟩ = some (.int .i64 E.lg) := k.cell rfl
        have e3 : w6.cell? ⟨w.heap.size, 3, none⟩ = some (.int .u64 E.fl) := k.cell rfl
        have e4 : w6.cell? ⟨w.heap.size, 4, none⟩ = some (.int .u64 E.ct) := k.cell rfl
        have e5 : w6.cell? ⟨w.heap.size, 5, none⟩ = some (.int .u64 E.at9) := k.cell rfl
        have e6 : w6.cell? ⟨w.heap.size, 6, none⟩ = some (.int .u64 E.ls) := k.cell rfl
        generalize strOfNums (zs ++ fr 6 (ebd E)) = SX at *
        generalize strOfNums (fr 6 (ebd E)) = SF at *
        generalize strOfNums zs = SB at *
        unfold edV
        clear CR hb6 hz6 hf6 A7 k CS HK HCX HADD HBs hcv zsz
        go_wp2_with fail
        refine CS7.out.mono ?_
        rintro e w8 ⟨rfl, hb8⟩
        have HB8 := hide (HB7.out.trans (hb8.mono HB7.out.size))
        clear CS7 hb8 e0 e1 e2 e3 e4 e5 e6 p0 p1 hadd
        go_wp2_with (go_at_call 13; refine (HA.out _).mono ?_; rintro e w9 ⟨rfl, hb9⟩)
        go_ret
        exact ⟨rfl, HB8.out.trans (hb9.mono HB8.out.size)⟩
      · rw [if_neg (by omega)] at hr2
        subst hr2
        rw [hm] at CM2
        clear hm HEL HER HRE HPT CE CS
        go_wp2_with fail
        refine CM2.out.mono ?_
        rintro e w3 ⟨rfl, hb3⟩
        have HB3 := hide (HB2.out.trans (hb3.mono HB2.out.size))
        clear CM2 hb3 e0 e1 e2 e3 e4 e5 e6
        go_wp2_with (go_at_call 13; refine (HA.out _).mono ?_; rintro e w6 ⟨rfl, hb6⟩)
        go_ret
        exact ⟨rfl, HB3.out.trans (hb6.mono HB3.out.size)⟩
end

end Go.Proofs.Ytgopcaemgcnapaa.Clep
