/- The statement EditReads, walked: for any bytes, any Edit and any numbers. No conditions. Written by wip/tools/gen15reads.py. -/
import Derived.Test.YtgopcaemgcnapaaWp
import Derived.Test.YtgopcaemgcnapaaWq
import Derived.Test.YtgopcaemgcnapaaCut
namespace Go.Proofs.Ytgopcaemgcnapaa.Clep
open Go.RowKit
set_option linter.unusedVariables false
set_option maxRecDepth 10000

theorem ebd_pos {E : Ed} (hm : emay E = 0) : 0 < (ebd E).length := by
  have h := (li_len E.d (by have := (emay_parts hm).1; omega)).1
  unfold ebd
  rw [List.length_append]
  omega
/-- The Edit that is told is in the boxed variable, and may be. -/
structure Pk (w W : World) (da : Option Addr) (dn dc : Nat) (aa : Option Addr) (an ac : Nat) (E : Ed) : Prop where
  k : Ek W w.heap.size #[.slice da dn dc, .slice aa an ac, .int .i64 E.lg, .int .u64 E.fl, .int .u64 E.ct, .int .u64 E.at9, .int .u64 E.ls] 31
  z : Zs W da dn dc E.d
  f : Fs W aa an ac E.a
  may : emay E = 0
  u : 0 ≤ E.fl ∧ 0 ≤ E.ct ∧ 0 ≤ E.at9 ∧ 0 ≤ E.ls
theorem bmore15 {w w1 w2 : World} (h1 : Below w.heap.size w w1) (h2 : Below w1.heap.size w1 w2) : Below w.heap.size w w2 := h1.trans (h2.mono h1.size)
theorem rda_form {X : List Int} {w : World} {e : Ending} {w' : World} (h : RdA (red X) w e w') : ∃ da dn dc aa an ac, e = .returned (.tuple #[edV da dn dc aa an ac ((red X).getD zE), .int .i64 (if (red X).isSome = true then 0 else 3)]) ∧ Zs w' da dn dc ((red X).getD zE).d ∧ Fs w' aa an ac ((red X).getD zE).a ∧ dn ≤ 40 ∧ an ≤ 40 ∧ Below w.heap.size w w' := by
  cases hr : red X with
  | none =>
    rw [hr] at h
    obtain ⟨h1, h2⟩ := h
    exact ⟨none, 0, 0, none, 0, 0, h1, zs_nil _, fs_nil _, by omega, by omega, h2⟩
  | some E =>
    have hl := (emay_parts (red_may hr)).1
    rw [hr] at h
    obtain ⟨⟨da, dc, aa, ac, h1, h2, h3⟩, h4⟩ := h
    exact ⟨da, _, dc, aa, _, ac, h1, h2, h3, hl.1, hl.2, h4⟩

section
attribute [local go_sem ↓] cut_lh cut_h
set_option maxHeartbeats 4000000 in
theorem reads_walk (a0 : Option Addr) (n0 c0 : Nat) (zs : List Int) (y : Er) (t2 t3 t4 : Int) (w : World) (h0 : Bs w a0 n0 c0 zs ∧ n0 ≤ 9223372036854775807) (hc0 : c0 ≤ 9223372036854775807) (hy : y.ok w) :
    Calls Try.prog 6 #[.slice a0 n0 c0, .agg #[.slice y.da y.dn y.dc, .slice y.aa y.an y.ac, .int .i64 y.E.lg, .int .u64 y.E.fl, .int .u64 y.E.ct, .int .u64 y.E.at9, .int .u64 y.E.ls], .int .i64 t2, .int .u8 t3, .int .i64 t4] w fun e w' => e = .returned (.bool true) ∧ Below w.heap.size w w' := by
  obtain ⟨da, dn, dc, aa, an, ac, E⟩ := y
  obtain ⟨⟨hd, hdn⟩, ⟨ha, han⟩, hlg, hfl, hct, hat9, hls⟩ := hy
  simp only at hd hdn ha han hlg hfl hct hat9 hls ⊢
  have HU := hide (show 0 ≤ E.fl ∧ 0 ≤ E.ct ∧ 0 ≤ E.at9 ∧ 0 ≤ E.ls from ⟨hfl.1, hct.1, hat9.1, hls.1⟩)
  have hn0 := h0.2
  have HA := hide awake_any
  have CF := hide (fun W => few_any da aa dn dc an ac E W hdn han)
  obtain ⟨of, hof⟩ : ∃ o, decide (dn ≤ 60 ∧ an ≤ 60) = o := ⟨_, rfl⟩
  rw [hof] at CF
  have HZ := hide (fun W (hW : Below w.heap.size w W) => hd.below hW (Nat.le_refl _))
  have HF := hide (fun W (hW : Below w.heap.size w W) => ha.below hW (Nat.le_refl _))
  have HBs := hide (fun W (hW : Below w.heap.size w W) => h0.1.below hW (Nat.le_refl _))
  have CM := hide (fun W (hW : Below w.heap.size w W) => editmay_any da dn dc aa an ac E W (HZ.out W hW) (HF.out W hW) hdn han)
  have HOR := emay_or E
  have HZR := hide (bs_range h0.1)
  unfold edV at CF CM
  clear hd ha hlg hfl hct hat9 hls hof h0
  have A0 := (Below.refl w.heap.size w).alloc (Nat.le_refl _) (Obj.cells #[.slice da dn dc, .slice aa an ac, .int .i64 E.lg, .int .u64 E.fl, .int .u64 E.ct, .int .u64 E.at9, .int .u64 E.ls] 31)
  have HB0 := hide A0
  have HK := hide (show ∀ W, Below (w.heap.size + 1) (w.alloc (Obj.cells #[.slice da dn dc, .slice aa an ac, .int .i64 E.lg, .int .u64 E.fl, .int .u64 E.ct, .int .u64 E.at9, .int .u64 E.ls] 31)) W → Ek W w.heap.size #[.slice da dn dc, .slice aa an ac, .int .i64 E.lg, .int .u64 E.fl, .int .u64 E.ct, .int .u64 E.at9, .int .u64 E.ls] 31 from fun W hW => (ek_new w _ _).below hW (by omega))
  have HSA := hide (show (w.alloc (Obj.cells #[.slice da dn dc, .slice aa an ac, .int .i64 E.lg, .int .u64 E.fl, .int .u64 E.ct, .int .u64 E.at9, .int .u64 E.ls] 31)).heap.size = w.heap.size + 1 by simp)
  clear A0
  by_cases hb : 2000 < n0
  · have q1 : (2000 : Int) < (n0 : Int) := by omega
    go_enter Try.func6, Try.ntmps6
    go_wp2_with (go_at_call 13; refine (HA.out _).mono ?_; rintro e w6 ⟨rfl, hb6⟩)
    go_ret
    exact ⟨rfl, HB0.out.trans (hb6.mono HB0.out.size)⟩
  · have q1 : ¬ ((2000 : Int) < (n0 : Int)) := by omega
    go_enter Try.func6, Try.ntmps6
    go_wp2_with fail
    generalize hwa : w.alloc (Obj.cells #[.slice da dn dc, .slice aa an ac, .int .i64 E.lg, .int .u64 E.fl, .int .u64 E.ct, .int .u64 E.at9, .int .u64 E.ls] 31) = wa at *
    clear hwa
    refine (CF.out _).mono ?_
    rintro e w1 ⟨rfl, hb1⟩
    have HB1 := hide (HB0.out.trans (hb1.mono HB0.out.size))
    have HC1 := hide (show Below (w.heap.size + 1) wa w1 from hb1.mono (by rw [HSA.out]; exact Nat.le_refl _))
    clear hb1 CF HB0
    cases of with
    | false =>
      go_wp2_with (go_at_call 13; refine (HA.out _).mono ?_; rintro e w6 ⟨rfl, hb6⟩)
      go_ret
      exact ⟨rfl, HB1.out.trans (hb6.mono HB1.out.size)⟩
    | true =>
      have k := HK.out w1 HC1.out
      have e0 : w1.cell? ⟨w.heap.size, 0, none⟩ = some (.slice da dn dc) := k.cell rfl
      have e1 : w1.cell? ⟨w.heap.size, 1, none⟩ = some (.slice aa an ac) := k.cell rfl
      have e2 : w1.cell? ⟨w.heap.size, 2, none⟩ = some (.int .i64 E.lg) := k.cell rfl
      have e3 : w1.cell? ⟨w.heap.size, 3, none⟩ = some (.int .u64 E.fl) := k.cell rfl
      have e4 : w1.cell? ⟨w.heap.size, 4, none⟩ = some (.int .u64 E.ct) := k.cell rfl
      have e5 : w1.cell? ⟨w.heap.size, 5, none⟩ = some (.int .u64 E.at9) := k.cell rfl
      have e6 : w1.cell? ⟨w.heap.size, 6, none⟩ = some (.int .u64 E.ls) := k.cell rfl
      have CM2 := hide (CM.out w1 HB1.out)
      have hs1 : w.heap.size + 1 ≤ w1.heap.size := by rw [← HSA.out]; exact HC1.out.size
      clear k CM
      go_wp2_with fail
      refine CM2.out.mono ?_
      rintro e w2 ⟨rfl, hb2⟩
      have HB2 := hide (HB1.out.trans (hb2.mono HB1.out.size))
      have HC2 := hide (HC1.out.trans (hb2.mono hs1))
      have hs2 : w.heap.size + 1 ≤ w2.heap.size := Nat.le_trans hs1 hb2.size
      clear CM2 hb2 e0 e1 e2 e3 e4 e5 e6
      rcases HOR with hm | hm
      · have HPK := hide (show Pk w w2 da dn dc aa an ac E from ⟨HK.out w2 HC2.out, HZ.out w2 HB2.out, HF.out w2 HB2.out, hm, HU.out⟩)
        have HBW := HB2
        have q2 : (emay E != 0) = false := by simp [hm]
        clear hm HK HZ HF HU HC1 HC2 HB1
        have k := HPK.out.k
        have e0 : w2.cell? ⟨w.heap.size, 0, none⟩ = some (.slice da dn dc) := k.cell rfl
        have e1 : w2.cell? ⟨w.heap.size, 1, none⟩ = some (.slice aa an ac) := k.cell rfl
        have e2 : w2.cell? ⟨w.heap.size, 2, none⟩ = some (.int .i64 E.lg) := k.cell rfl
        have e3 : w2.cell? ⟨w.heap.size, 3, none⟩ = some (.int .u64 E.fl) := k.cell rfl
        have e4 : w2.cell? ⟨w.heap.size, 4, none⟩ = some (.int .u64 E.ct) := k.cell rfl
        have e5 : w2.cell? ⟨w.heap.size, 5, none⟩ = some (.int .u64 E.at9) := k.cell rfl
        have e6 : w2.cell? ⟨w.heap.size, 6, none⟩ = some (.int .u64 E.ls) := k.cell rfl
        have hm := HPK.out.may
        have hpl := (emay_parts hm).1
        have hEl := ebd_len hm
        have HERm := hide (ebd_range hm HPK.out.u)
        have CE3 := hide (redit_any da dn dc aa an ac E w2 HPK.out.z HPK.out.f hm HPK.out.u)
        have hEp : 0 < (ebd E).length := ebd_pos hm
        have hFR : ByteL (fr 6 (ebd E)) := fr_range 6 (ebd E) (by omega) (by omega) (by omega) HERm.out
        have HFL := hide (fr_len 6 (ebd E))
        have HFR := hide hFR
        unfold edV at CE3
        clear hm hpl k hFR
        go_wp2_with fail
        refine CE3.out.mono ?_
        rintro e w4 ⟨rfl, hb4⟩
        have HB4 := hide (HBW.out.trans (hb4.mono HBW.out.size))
        have hk4 := HPK.out.k.lt
        have hl4 : w.heap.size < w4.heap.size := Nat.lt_of_lt_of_le hk4 hb4.size
        obtain ⟨cp, w5, hcv, hcpl, hb5, hrm⟩ := rm_str w4 (fr 6 (ebd E)) HFR.out (by rw [HFL.out]; unfold maxLen; omega)
        have hcpm : cp ≤ 9223372036854775807 := by have := hrm.out.max; unfold maxLen at this; omega
        obtain ⟨M, hM⟩ : ∃ M, (ebd E).length = M := ⟨_, rfl⟩
        have HF := hide (show (fr 6 (ebd E)).length = M + 12 from by rw [HFL.out, hM])
        rw [HF.out] at hcv hcpl
        rw [hM] at hEp hEl
        generalize fr 6 (ebd E) = FZ at *
        obtain ⟨g, hg⟩ : ∃ g, w4.heap.size = g := ⟨_, rfl⟩
        rw [hg] at hcv hrm
        have HGW := hide (show w.heap.size + 1 ≤ g from by rw [← hg]; exact hl4)
        have zsz : (strOfNums FZ).size = M + 12 := by rw [str_size, HF.out]
        have hsub : IntKind.i64.wrap (((M + 12 : Nat) : Int) - 4) = ((M + 8 : Nat) : Int) := by
          simp [IntKind.wrap, IntKind.bits, IntKind.signed]
          omega
        have hsub2 : IntKind.i64.wrap ((M : Int) + 12 - 4) = ((M + 8 : Nat) : Int) := by
          simp [IntKind.wrap, IntKind.bits, IntKind.signed]
          omega
        have hsub3 : IntKind.i64.wrap ((M : Int) + 1) = ((M + 1 : Nat) : Int) := by
          simp [IntKind.wrap, IntKind.bits, IntKind.signed]
          omega
        obtain ⟨p, hp1, hp⟩ := place_of t2 65535 (by decide) (M : Int) M rfl hEp
        obtain ⟨y, hy1, hy⟩ := place_of t4 255 (by decide) ((M : Int) + 1) (M + 1) (by omega) (by omega)
        replace hp1 : (bits BinOp.and IntKind.i64 t2 65535).tmod (M : Int) = (p : Int) := hp1
        replace hy1 : (bits BinOp.and IntKind.i64 t4 255).tmod ((M : Int) + 1) = (y : Int) := hy1
        have hc8 : cut (some ⟨g, 0, none⟩) cp 8 = some ⟨g, 8, none⟩ := by unfold cut; rw [if_neg (by omega)]; rfl
        have hmr : IntKind.i64.wrap ((M : Int) - (y : Int)) = ((M - y : Nat) : Int) := by
          simp [IntKind.wrap, IntKind.bits, IntKind.signed]
          omega
        have cP := hrm.out.cell (8 + p) (by rw [HF.out]; omega)
        have fP := hrm.out.free (8 + p) (by omega)
        have hxr := xor_range (FZ.getD (8 + p) 0) t3
        have RM6 := hide (hrm.out.set (8 + p) (by rw [HF.out]; omega) _ hxr)
        have HB5 := hide (HB4.out.trans (hb5.out.mono HB4.out.size))
        have HB6 := hide (HB5.out.grown (fgb_set w5 ⟨g, 8 + p, none⟩ (.int .u8 (bits BinOp.xor IntKind.u8 (FZ.getD (8 + p) 0) t3))) HB5.out.size (fun k hk => by have : g = k := Option.some.inj hk; have := HGW.out; omega))
        have HF6 := hide (show (FZ.set (8 + p) (bits BinOp.xor IntKind.u8 (FZ.getD (8 + p) 0) t3)).length = M + 12 from by rw [List.length_set]; exact HF.out)
        have HC := hide (rm_bs RM6.out)
        generalize FZ.set (8 + p) (bits BinOp.xor IntKind.u8 (FZ.getD (8 + p) 0) t3) = F6 at *
        generalize FZ.getD (8 + p) 0 = z0 at *
        have hpi : (p : Int) < (M : Int) := by omega
        have hq8 : (8 : Int) ≤ ((M + 8 : Nat) : Int) := by omega
        have hq9 : ((M + 8 : Nat) : Int) ≤ (cp : Int) := by omega
        have hz1 : ((M - y : Nat) : Int) ≤ ((cp - 8 : Nat) : Int) := by omega
        have hcz : cut (some ⟨g, 8, none⟩) (cp - 8) 0 = some ⟨g, 8, none⟩ := by unfold cut; split <;> rfl
        have hmr2 : wrap64 ((M : Int) - (y : Int)) = ((M - y : Nat) : Int) := by unfold wrap64; omega
        have hlen1 : M + 8 - 8 = M := by omega
        clear hb5 hrm hg HERm hxr hM
        go_wp2_with fail
        generalize hw6 : w5.setCell ⟨g, 8 + p, none⟩ (.int .u8 (bits BinOp.xor IntKind.u8 z0 t3)) = w6 at *
        have HCC := hide (show Bs w6 (some ⟨g, 8, none⟩) (M - y) (cp - 8) (((F6.take (M + 8)).drop 8).take (M - y)) ∧ ByteL (((F6.take (M + 8)).drop 8).take (M - y)) from by
          have hc := HC.out
          rw [HF6.out] at hc
          have h1 := hc.cut 8 (M + 8) (by omega) (by omega)
          rw [hc8, hlen1] at h1
          have h2 := h1.cut 0 (M - y) (by omega) (by omega)
          rw [hcz, Nat.sub_zero, Nat.sub_zero, List.drop_zero] at h2
          exact ⟨h2, bs_range h2⟩)
        have HSB := hide (show ∃ X, Bs w6 a0 n0 c0 X ∧ ByteL X from ⟨zs, HBs.out w6 HB6.out, HZR.out⟩)
        have hMy : M - y ≤ 2000 := by omega
        have hcp8 : cp - 8 ≤ 9223372036854775807 := by omega
        have hn2 : n0 ≤ 2000 := by omega
        generalize ((F6.take (M + 8)).drop 8).take (M - y) = XC at *
        generalize M - y = mm at *
        generalize cp - 8 = cq at *
        clear hcv hcpl hcpm hEp hEl HF zsz hsub hsub2 hsub3 hp1 hp hy1 hy hc8 hmr cP fP RM6 HB5 HF6 HC hpi hq8 hq9 hz1 hcz hmr2 hlen1 HFR HFL HGW HB4 hw6 CE3 hb4
        clear e0 e1 e2 e3 e4 e5 e6
        simp only [Nat.add_sub_cancel]
        go_loopw [0, 13] (fun t u wr => ∃ (i : Nat) (ab : Option Addr) (lb cb : Nat), u = .int .i64 i ∧ i ≤ 2 ∧ t = .slice ab lb cb ∧ lb ≤ 2000 ∧ cb ≤ 9223372036854775807 ∧ Hid (∃ X, Bs wr ab lb cb X ∧ ByteL X) ∧ Hid (Below w6.heap.size w6 wr)) (fun _ u _ => 2 - (intOf u).toNat)
        case atStart => exact ⟨0, a0, n0, c0, rfl, by omega, rfl, hn2, hc0, HSB, hide (Below.refl _ _)⟩
        case round =>
          obtain ⟨i, ab, lb, cb, rfl, hi, rfl, hlb, hcb, hX, hBr⟩ := hrel
          by_cases h2 : i < 2
          · by_cases h1 : i = 1
            · subst h1
              obtain ⟨X, hbs, hxr⟩ : ∃ X, Bs wr (some ⟨g, 8, none⟩) mm cq X ∧ ByteL X := ⟨XC, HCC.out.1.below hBr.out (Nat.le_refl _), HCC.out.2⟩
              clear hX
              have HXS := hide hbs
              have HXR := hide hxr
              have CR := hide (read_any (some ⟨g, 8, none⟩) mm cq X wr (by omega) (by omega) hbs)
              clear hbs hxr
              go_wp2_with fail
              refine CR.out.mono ?_
              rintro e y1 hr1
              obtain ⟨da1, dn1, dc1, aa1, an1, ac1, rfl, hz1, hf1, l1, l2, hb1⟩ := rda_form hr1
              obtain ⟨G, hG⟩ : ∃ G, (red X).getD zE = G := ⟨_, rfl⟩
              obtain ⟨r, hr⟩ : ∃ r : Int, (if (red X).isSome = true then 0 else 3) = r := ⟨_, rfl⟩
              rw [hG] at hz1 hf1
              have HGE := hide hG
              have HRE := hide hr
              have A1 := (Below.refl _ y1).alloc (Nat.le_refl _) (Obj.cells #[.slice da1 dn1 dc1, .slice aa1 an1 ac1, .int .i64 G.lg, .int .u64 G.fl, .int .u64 G.ct, .int .u64 G.at9, .int .u64 G.ls] 31)
              have hk1 := ek_new y1 #[.slice da1 dn1 dc1, .slice aa1 an1 ac1, .int .i64 G.lg, .int .u64 G.fl, .int .u64 G.ct, .int .u64 G.at9, .int .u64 G.ls] 31
              have hcv := conv_bs (HXS.out.below (bmore15 hb1 A1) (Nat.le_refl _))
              have CD := hide (rread_any (strOfNums X) X (y1.alloc (Obj.cells #[.slice da1 dn1 dc1, .slice aa1 an1 ac1, .int .i64 G.lg, .int .u64 G.fl, .int .u64 G.ct, .int .u64 G.at9, .int .u64 G.ls] 31)) (by rw [str_size, HXS.out.1]; omega) (sz_of X (range_of HXR.out)) HXR.out)
              have HZ1 := hide (hz1.below A1 (Nat.le_refl _))
              have HF1 := hide (hf1.below A1 (Nat.le_refl _))
              have HK1 := hide hk1
              have HBB := hide (bmore15 hBr.out (bmore15 hb1 A1))
              have hkl : y1.heap.size < (y1.alloc (Obj.cells #[.slice da1 dn1 dc1, .slice aa1 an1 ac1, .int .i64 G.lg, .int .u64 G.fl, .int .u64 G.ct, .int .u64 G.at9, .int .u64 G.ls] 31)).heap.size := by simp
              have hrr : (r != r) = false := by simp
              unfold edV
              rw [hG, hr]
              generalize strOfNums X = SX at *
              have HBX := hide (bmore15 hb1 A1)
              clear hr1 hz1 hf1 hb1 CR A1 hk1 hG hr hBr
              go_wp2_with fail
              refine CD.out.mono ?_
              rintro e y3 hr3
              obtain ⟨da3, dn3, dc3, aa3, an3, ac3, rfl, hz3, hf3, l3, l4, hb3⟩ := rda_form hr3
              rw [HGE.out] at hz3 hf3
              have A3 := (Below.refl _ y3).alloc (Nat.le_refl _) (Obj.cells #[.slice da3 dn3 dc3, .slice aa3 an3 ac3, .int .i64 G.lg, .int .u64 G.fl, .int .u64 G.ct, .int .u64 G.at9, .int .u64 G.ls] 31)
              have k1 := HK1.out.below (bmore15 hb3 A3) HK1.out.lt
              have k3 := ek_new y3 #[.slice da3 dn3 dc3, .slice aa3 an3 ac3, .int .i64 G.lg, .int .u64 G.fl, .int .u64 G.ct, .int .u64 G.at9, .int .u64 G.ls] 31
              have p10 : (y3.alloc (Obj.cells #[.slice da3 dn3 dc3, .slice aa3 an3 ac3, .int .i64 G.lg, .int .u64 G.fl, .int .u64 G.ct, .int .u64 G.at9, .int .u64 G.ls] 31)).cell? ⟨y1.heap.size, 0, none⟩ = some (.slice da1 dn1 dc1) := k1.cell rfl
              have p11 : (y3.alloc (Obj.cells #[.slice da3 dn3 dc3, .slice aa3 an3 ac3, .int .i64 G.lg, .int .u64 G.fl, .int .u64 G.ct, .int .u64 G.at9, .int .u64 G.ls] 31)).cell? ⟨y1.heap.size, 1, none⟩ = some (.slice aa1 an1 ac1) := k1.cell rfl
              have p12 : (y3.alloc (Obj.cells #[.slice da3 dn3 dc3, .slice aa3 an3 ac3, .int .i64 G.lg, .int .u64 G.fl, .int .u64 G.ct, .int .u64 G.at9, .int .u64 G.ls] 31)).cell? ⟨y1.heap.size, 2, none⟩ = some (.int .i64 G.lg) := k1.cell rfl
              have p13 : (y3.alloc (Obj.cells #[.slice da3 dn3 dc3, .slice aa3 an3 ac3, .int .i64 G.lg, .int .u64 G.fl, .int .u64 G.ct, .int .u64 G.at9, .int .u64 G.ls] 31)).cell? ⟨y1.heap.size, 3, none⟩ = some (.int .u64 G.fl) := k1.cell rfl
              have p14 : (y3.alloc (Obj.cells #[.slice da3 dn3 dc3, .slice aa3 an3 ac3, .int .i64 G.lg, .int .u64 G.fl, .int .u64 G.ct, .int .u64 G.at9, .int .u64 G.ls] 31)).cell? ⟨y1.heap.size, 4, none⟩ = some (.int .u64 G.ct) := k1.cell rfl
              have p15 : (y3.alloc (Obj.cells #[.slice da3 dn3 dc3, .slice aa3 an3 ac3, .int .i64 G.lg, .int .u64 G.fl, .int .u64 G.ct, .int .u64 G.at9, .int .u64 G.ls] 31)).cell? ⟨y1.heap.size, 5, none⟩ = some (.int .u64 G.at9) := k1.cell rfl
              have p16 : (y3.alloc (Obj.cells #[.slice da3 dn3 dc3, .slice aa3 an3 ac3, .int .i64 G.lg, .int .u64 G.fl, .int .u64 G.ct, .int .u64 G.at9, .int .u64 G.ls] 31)).cell? ⟨y1.heap.size, 6, none⟩ = some (.int .u64 G.ls) := k1.cell rfl
              have p30 : (y3.alloc (Obj.cells #[.slice da3 dn3 dc3, .slice aa3 an3 ac3, .int .i64 G.lg, .int .u64 G.fl, .int .u64 G.ct, .int .u64 G.at9, .int .u64 G.ls] 31)).cell? ⟨y3.heap.size, 0, none⟩ = some (.slice da3 dn3 dc3) := k3.cell rfl
              have p31 : (y3.alloc (Obj.cells #[.slice da3 dn3 dc3, .slice aa3 an3 ac3, .int .i64 G.lg, .int .u64 G.fl, .int .u64 G.ct, .int .u64 G.at9, .int .u64 G.ls] 31)).cell? ⟨y3.heap.size, 1, none⟩ = some (.slice aa3 an3 ac3) := k3.cell rfl
              have p32 : (y3.alloc (Obj.cells #[.slice da3 dn3 dc3, .slice aa3 an3 ac3, .int .i64 G.lg, .int .u64 G.fl, .int .u64 G.ct, .int .u64 G.at9, .int .u64 G.ls] 31)).cell? ⟨y3.heap.size, 2, none⟩ = some (.int .i64 G.lg) := k3.cell rfl
              have p33 : (y3.alloc (Obj.cells #[.slice da3 dn3 dc3, .slice aa3 an3 ac3, .int .i64 G.lg, .int .u64 G.fl, .int .u64 G.ct, .int .u64 G.at9, .int .u64 G.ls] 31)).cell? ⟨y3.heap.size, 3, none⟩ = some (.int .u64 G.fl) := k3.cell rfl
              have p34 : (y3.alloc (Obj.cells #[.slice da3 dn3 dc3, .slice aa3 an3 ac3, .int .i64 G.lg, .int .u64 G.fl, .int .u64 G.ct, .int .u64 G.at9, .int .u64 G.ls] 31)).cell? ⟨y3.heap.size, 4, none⟩ = some (.int .u64 G.ct) := k3.cell rfl
              have p35 : (y3.alloc (Obj.cells #[.slice da3 dn3 dc3, .slice aa3 an3 ac3, .int .i64 G.lg, .int .u64 G.fl, .int .u64 G.ct, .int .u64 G.at9, .int .u64 G.ls] 31)).cell? ⟨y3.heap.size, 5, none⟩ = some (.int .u64 G.at9) := k3.cell rfl
              have p36 : (y3.alloc (Obj.cells #[.slice da3 dn3 dc3, .slice aa3 an3 ac3, .int .i64 G.lg, .int .u64 G.fl, .int .u64 G.ct, .int .u64 G.at9, .int .u64 G.ls] 31)).cell? ⟨y3.heap.size, 6, none⟩ = some (.int .u64 G.ls) := k3.cell rfl
              have HBC := hide (bmore15 HBB.out (bmore15 hb3 A3))
              have HXX := hide (show ∃ X, Bs (y3.alloc (Obj.cells #[.slice da3 dn3 dc3, .slice aa3 an3 ac3, .int .i64 G.lg, .int .u64 G.fl, .int .u64 G.ct, .int .u64 G.at9, .int .u64 G.ls] 31)) (some ⟨g, 8, none⟩) mm cq X ∧ ByteL X from ⟨X, (HXS.out.below (bmore15 HBX.out (bmore15 hb3 A3)) (Nat.le_refl _)), HXR.out⟩)
              have CS := hide ((esame_any da1 aa1 da3 aa3 dn1 dc1 an1 ac1 dn3 dc3 an3 ac3 G G (y3.alloc (Obj.cells #[.slice da3 dn3 dc3, .slice aa3 an3 ac3, .int .i64 G.lg, .int .u64 G.fl, .int .u64 G.ct, .int .u64 G.at9, .int .u64 G.ls] 31)) (HZ1.out.below (bmore15 hb3 A3) (Nat.le_refl _)) (HF1.out.below (bmore15 hb3 A3) (Nat.le_refl _)) (hz3.below A3 (Nat.le_refl _)) (hf3.below A3 (Nat.le_refl _)) (by omega) (by omega) (by omega) (by omega)).mono (R' := fun e w' => e = .returned (.bool true) ∧ Below (y3.alloc (Obj.cells #[.slice da3 dn3 dc3, .slice aa3 an3 ac3, .int .i64 G.lg, .int .u64 G.fl, .int .u64 G.ct, .int .u64 G.at9, .int .u64 G.ls] 31)).heap.size (y3.alloc (Obj.cells #[.slice da3 dn3 dc3, .slice aa3 an3 ac3, .int .i64 G.lg, .int .u64 G.fl, .int .u64 G.ct, .int .u64 G.at9, .int .u64 G.ls] 31)) w') fun e w' ⟨o, h1, h2, h3⟩ => by rw [h2.2 rfl] at h1; exact ⟨h1, h3⟩)
              have hl3 : y3.heap.size < (y3.alloc (Obj.cells #[.slice da3 dn3 dc3, .slice aa3 an3 ac3, .int .i64 G.lg, .int .u64 G.fl, .int .u64 G.ct, .int .u64 G.at9, .int .u64 G.ls] 31)).heap.size := by simp
              unfold edV at CS ⊢
              rw [HGE.out, HRE.out]
              clear hr3 hz3 hf3 hb3 CD A3 k1 k3 HGE HRE HXS HXR HZ1 HF1 HK1 HBB HBX hcv
              go_wp2_with fail
              refine CS.out.mono ?_
              rintro e y5 ⟨rfl, hb5⟩
              have HBD := hide (bmore15 HBC.out hb5)
              have HXY := hide (show ∃ X, Bs y5 (some ⟨g, 8, none⟩) mm cq X ∧ ByteL X from by
                obtain ⟨X, h1, h2⟩ := HXX.out
                exact ⟨X, h1.below hb5 (Nat.le_refl _), h2⟩)
              clear CS hb5 HBC HXX p10 p11 p12 p13 p14 p15 p16 p30 p31 p32 p33 p34 p35 p36
              go_wp2
              go_roundw
              case rel => exact ⟨2, some ⟨g, 8, none⟩, mm, cq, by first | rfl | go_num, by omega, rfl, hMy, hcp8, HXY, HBD⟩
              case measure => first | (simp [intOf]; done) | (simp [intOf]; omega)
            · obtain rfl : i = 0 := by omega
              obtain ⟨X, hbs, hxr⟩ := hX.out
              clear hX
              have HXS := hide hbs
              have HXR := hide hxr
              have CR := hide (read_any (ab) lb cb X wr (by omega) (by omega) hbs)
              clear hbs hxr
              go_wp2_with fail
              refine CR.out.mono ?_
              rintro e y1 hr1
              obtain ⟨da1, dn1, dc1, aa1, an1, ac1, rfl, hz1, hf1, l1, l2, hb1⟩ := rda_form hr1
              obtain ⟨G, hG⟩ : ∃ G, (red X).getD zE = G := ⟨_, rfl⟩
              obtain ⟨r, hr⟩ : ∃ r : Int, (if (red X).isSome = true then 0 else 3) = r := ⟨_, rfl⟩
              rw [hG] at hz1 hf1
              have HGE := hide hG
              have HRE := hide hr
              have A1 := (Below.refl _ y1).alloc (Nat.le_refl _) (Obj.cells #[.slice da1 dn1 dc1, .slice aa1 an1 ac1, .int .i64 G.lg, .int .u64 G.fl, .int .u64 G.ct, .int .u64 G.at9, .int .u64 G.ls] 31)
              have hk1 := ek_new y1 #[.slice da1 dn1 dc1, .slice aa1 an1 ac1, .int .i64 G.lg, .int .u64 G.fl, .int .u64 G.ct, .int .u64 G.at9, .int .u64 G.ls] 31
              have hcv := conv_bs (HXS.out.below (bmore15 hb1 A1) (Nat.le_refl _))
              have CD := hide (rread_any (strOfNums X) X (y1.alloc (Obj.cells #[.slice da1 dn1 dc1, .slice aa1 an1 ac1, .int .i64 G.lg, .int .u64 G.fl, .int .u64 G.ct, .int .u64 G.at9, .int .u64 G.ls] 31)) (by rw [str_size, HXS.out.1]; omega) (sz_of X (range_of HXR.out)) HXR.out)
              have HZ1 := hide (hz1.below A1 (Nat.le_refl _))
              have HF1 := hide (hf1.below A1 (Nat.le_refl _))
              have HK1 := hide hk1
              have HBB := hide (bmore15 hBr.out (bmore15 hb1 A1))
              have hkl : y1.heap.size < (y1.alloc (Obj.cells #[.slice da1 dn1 dc1, .slice aa1 an1 ac1, .int .i64 G.lg, .int .u64 G.fl, .int .u64 G.ct, .int .u64 G.at9, .int .u64 G.ls] 31)).heap.size := by simp
              have hrr : (r != r) = false := by simp
              unfold edV
              rw [hG, hr]
              generalize strOfNums X = SX at *
              have HBX := hide (bmore15 hb1 A1)
              clear hr1 hz1 hf1 hb1 CR A1 hk1 hG hr hBr
              go_wp2_with fail
              refine CD.out.mono ?_
              rintro e y3 hr3
              obtain ⟨da3, dn3, dc3, aa3, an3, ac3, rfl, hz3, hf3, l3, l4, hb3⟩ := rda_form hr3
              rw [HGE.out] at hz3 hf3
              have A3 := (Below.refl _ y3).alloc (Nat.le_refl _) (Obj.cells #[.slice da3 dn3 dc3, .slice aa3 an3 ac3, .int .i64 G.lg, .int .u64 G.fl, .int .u64 G.ct, .int .u64 G.at9, .int .u64 G.ls] 31)
              have k1 := HK1.out.below (bmore15 hb3 A3) HK1.out.lt
              have k3 := ek_new y3 #[.slice da3 dn3 dc3, .slice aa3 an3 ac3, .int .i64 G.lg, .int .u64 G.fl, .int .u64 G.ct, .int .u64 G.at9, .int .u64 G.ls] 31
              have p10 : (y3.alloc (Obj.cells #[.slice da3 dn3 dc3, .slice aa3 an3 ac3, .int .i64 G.lg, .int .u64 G.fl, .int .u64 G.ct, .int .u64 G.at9, .int .u64 G.ls] 31)).cell? ⟨y1.heap.size, 0, none⟩ = some (.slice da1 dn1 dc1) := k1.cell rfl
              have p11 : (y3.alloc (Obj.cells #[.slice da3 dn3 dc3, .slice aa3 an3 ac3, .int .i64 G.lg, .int .u64 G.fl, .int .u64 G.ct, .int .u64 G.at9, .int .u64 G.ls] 31)).cell? ⟨y1.heap.size, 1, none⟩ = some (.slice aa1 an1 ac1) := k1.cell rfl
              have p12 : (y3.alloc (Obj.cells #[.slice da3 dn3 dc3, .slice aa3 an3 ac3, .int .i64 G.lg, .int .u64 G.fl, .int .u64 G.ct, .int .u64 G.at9, .int .u64 G.ls] 31)).cell? ⟨y1.heap.size, 2, none⟩ = some (.int .i64 G.lg) := k1.cell rfl
              have p13 : (y3.alloc (Obj.cells #[.slice da3 dn3 dc3, .slice aa3 an3 ac3, .int .i64 G.lg, .int .u64 G.fl, .int .u64 G.ct, .int .u64 G.at9, .int .u64 G.ls] 31)).cell? ⟨y1.heap.size, 3, none⟩ = some (.int .u64 G.fl) := k1.cell rfl
              have p14 : (y3.alloc (Obj.cells #[.slice da3 dn3 dc3, .slice aa3 an3 ac3, .int .i64 G.lg, .int .u64 G.fl, .int .u64 G.ct, .int .u64 G.at9, .int .u64 G.ls] 31)).cell? ⟨y1.heap.size, 4, none⟩ = some (.int .u64 G.ct) := k1.cell rfl
              have p15 : (y3.alloc (Obj.cells #[.slice da3 dn3 dc3, .slice aa3 an3 ac3, .int .i64 G.lg, .int .u64 G.fl, .int .u64 G.ct, .int .u64 G.at9, .int .u64 G.ls] 31)).cell? ⟨y1.heap.size, 5, none⟩ = some (.int .u64 G.at9) := k1.cell rfl
              have p16 : (y3.alloc (Obj.cells #[.slice da3 dn3 dc3, .slice aa3 an3 ac3, .int .i64 G.lg, .int .u64 G.fl, .int .u64 G.ct, .int .u64 G.at9, .int .u64 G.ls] 31)).cell? ⟨y1.heap.size, 6, none⟩ = some (.int .u64 G.ls) := k1.cell rfl
              have p30 : (y3.alloc (Obj.cells #[.slice da3 dn3 dc3, .slice aa3 an3 ac3, .int .i64 G.lg, .int .u64 G.fl, .int .u64 G.ct, .int .u64 G.at9, .int .u64 G.ls] 31)).cell? ⟨y3.heap.size, 0, none⟩ = some (.slice da3 dn3 dc3) := k3.cell rfl
              have p31 : (y3.alloc (Obj.cells #[.slice da3 dn3 dc3, .slice aa3 an3 ac3, .int .i64 G.lg, .int .u64 G.fl, .int .u64 G.ct, .int .u64 G.at9, .int .u64 G.ls] 31)).cell? ⟨y3.heap.size, 1, none⟩ = some (.slice aa3 an3 ac3) := k3.cell rfl
              have p32 : (y3.alloc (Obj.cells #[.slice da3 dn3 dc3, .slice aa3 an3 ac3, .int .i64 G.lg, .int .u64 G.fl, .int .u64 G.ct, .int .u64 G.at9, .int .u64 G.ls] 31)).cell? ⟨y3.heap.size, 2, none⟩ = some (.int .i64 G.lg) := k3.cell rfl
              have p33 : (y3.alloc (Obj.cells #[.slice da3 dn3 dc3, .slice aa3 an3 ac3, .int .i64 G.lg, .int .u64 G.fl, .int .u64 G.ct, .int .u64 G.at9, .int .u64 G.ls] 31)).cell? ⟨y3.heap.size, 3, none⟩ = some (.int .u64 G.fl) := k3.cell rfl
              have p34 : (y3.alloc (Obj.cells #[.slice da3 dn3 dc3, .slice aa3 an3 ac3, .int .i64 G.lg, .int .u64 G.fl, .int .u64 G.ct, .int .u64 G.at9, .int .u64 G.ls] 31)).cell? ⟨y3.heap.size, 4, none⟩ = some (.int .u64 G.ct) := k3.cell rfl
              have p35 : (y3.alloc (Obj.cells #[.slice da3 dn3 dc3, .slice aa3 an3 ac3, .int .i64 G.lg, .int .u64 G.fl, .int .u64 G.ct, .int .u64 G.at9, .int .u64 G.ls] 31)).cell? ⟨y3.heap.size, 5, none⟩ = some (.int .u64 G.at9) := k3.cell rfl
              have p36 : (y3.alloc (Obj.cells #[.slice da3 dn3 dc3, .slice aa3 an3 ac3, .int .i64 G.lg, .int .u64 G.fl, .int .u64 G.ct, .int .u64 G.at9, .int .u64 G.ls] 31)).cell? ⟨y3.heap.size, 6, none⟩ = some (.int .u64 G.ls) := k3.cell rfl
              have HBC := hide (bmore15 HBB.out (bmore15 hb3 A3))
              have HXX := hide (show ∃ X, Bs (y3.alloc (Obj.cells #[.slice da3 dn3 dc3, .slice aa3 an3 ac3, .int .i64 G.lg, .int .u64 G.fl, .int .u64 G.ct, .int .u64 G.at9, .int .u64 G.ls] 31)) (ab) lb cb X ∧ ByteL X from ⟨X, (HXS.out.below (bmore15 HBX.out (bmore15 hb3 A3)) (Nat.le_refl _)), HXR.out⟩)
              have CS := hide ((esame_any da1 aa1 da3 aa3 dn1 dc1 an1 ac1 dn3 dc3 an3 ac3 G G (y3.alloc (Obj.cells #[.slice da3 dn3 dc3, .slice aa3 an3 ac3, .int .i64 G.lg, .int .u64 G.fl, .int .u64 G.ct, .int .u64 G.at9, .int .u64 G.ls] 31)) (HZ1.out.below (bmore15 hb3 A3) (Nat.le_refl _)) (HF1.out.below (bmore15 hb3 A3) (Nat.le_refl _)) (hz3.below A3 (Nat.le_refl _)) (hf3.below A3 (Nat.le_refl _)) (by omega) (by omega) (by omega) (by omega)).mono (R' := fun e w' => e = .returned (.bool true) ∧ Below (y3.alloc (Obj.cells #[.slice da3 dn3 dc3, .slice aa3 an3 ac3, .int .i64 G.lg, .int .u64 G.fl, .int .u64 G.ct, .int .u64 G.at9, .int .u64 G.ls] 31)).heap.size (y3.alloc (Obj.cells #[.slice da3 dn3 dc3, .slice aa3 an3 ac3, .int .i64 G.lg, .int .u64 G.fl, .int .u64 G.ct, .int .u64 G.at9, .int .u64 G.ls] 31)) w') fun e w' ⟨o, h1, h2, h3⟩ => by rw [h2.2 rfl] at h1; exact ⟨h1, h3⟩)
              have hl3 : y3.heap.size < (y3.alloc (Obj.cells #[.slice da3 dn3 dc3, .slice aa3 an3 ac3, .int .i64 G.lg, .int .u64 G.fl, .int .u64 G.ct, .int .u64 G.at9, .int .u64 G.ls] 31)).heap.size := by simp
              unfold edV at CS ⊢
              rw [HGE.out, HRE.out]
              clear hr3 hz3 hf3 hb3 CD A3 k1 k3 HGE HRE HXS HXR HZ1 HF1 HK1 HBB HBX hcv
              go_wp2_with fail
              refine CS.out.mono ?_
              rintro e y5 ⟨rfl, hb5⟩
              have HBD := hide (bmore15 HBC.out hb5)
              have HXY := hide (show ∃ X, Bs y5 (ab) lb cb X ∧ ByteL X from by
                obtain ⟨X, h1, h2⟩ := HXX.out
                exact ⟨X, h1.below hb5 (Nat.le_refl _), h2⟩)
              clear CS hb5 HBC HXX p10 p11 p12 p13 p14 p15 p16 p30 p31 p32 p33 p34 p35 p36
              go_wp2
              go_roundw
              case rel => exact ⟨1, ab, lb, cb, by first | rfl | go_num, by omega, rfl, hlb, hcb, HXY, HBD⟩
              case measure => first | (simp [intOf]; done) | (simp [intOf]; omega)
          · obtain rfl : i = 2 := by omega
            go_wp2_with (go_at_call 13; refine (HA.out _).mono ?_; rintro e w9 ⟨rfl, hb9⟩)
            go_ret
            exact ⟨rfl, (HB6.out.trans (hBr.out.mono HB6.out.size)).trans (hb9.mono (Nat.le_trans HB6.out.size hBr.out.size))⟩
        
      · have q2 : (emay E != 0) = true := by simp [hm]
        have hk := HK.out w2 HC2.out
        have A1 := (Below.refl _ w2).alloc (Nat.le_refl _) (Obj.cells #[.int .i64 1, .int .i64 300] 29)
        have A2 := (Below.refl _ (w2.alloc (Obj.cells #[.int .i64 1, .int .i64 300] 29))).alloc (Nat.le_refl _) (Obj.cells #[.int .i64 7] 3)
        obtain ⟨wb, hwb⟩ : ∃ x, ((w2.alloc (Obj.cells #[.int .i64 1, .int .i64 300] 29)).alloc (Obj.cells #[.int .i64 7] 3)) = x := ⟨_, rfl⟩
        rw [hwb] at A2
        have A3 := A1.trans (A2.mono (by simp))
        have k := hk.below A3 hk.lt
        have kk : Ek ((w2.alloc (Obj.cells #[.int .i64 1, .int .i64 300] 29)).alloc (Obj.cells #[.int .i64 7] 3)) w.heap.size #[.slice da dn dc, .slice aa an ac, .int .i64 E.lg, .int .u64 E.fl, .int .u64 E.ct, .int .u64 E.at9, .int .u64 E.ls] 31 := by rw [hwb]; exact k
        have HF1 := hide (fhpS w2 (Obj.cells #[.int .i64 1, .int .i64 300] 29) _ rfl)
        have HF2 := hide (fhpS (w2.alloc (Obj.cells #[.int .i64 1, .int .i64 300] 29)) (Obj.cells #[.int .i64 7] 3) (w2.heap.size + 1) (by simp))
        rw [hwb] at HF2
        have e0 : ((w2.alloc (Obj.cells #[.int .i64 1, .int .i64 300] 29)).alloc (Obj.cells #[.int .i64 7] 3)).cell? ⟨w.heap.size, 0, none⟩ = some (.slice da dn dc) := kk.cell rfl
        have e1 : ((w2.alloc (Obj.cells #[.int .i64 1, .int .i64 300] 29)).alloc (Obj.cells #[.int .i64 7] 3)).cell? ⟨w.heap.size, 1, none⟩ = some (.slice aa an ac) := kk.cell rfl
        have e2 : ((w2.alloc (Obj.cells #[.int .i64 1, .int .i64 300] 29)).alloc (Obj.cells #[.int .i64 7] 3)).cell? ⟨w.heap.size, 2, none⟩ = some (.int .i64 E.lg) := kk.cell rfl
        have e3 : ((w2.alloc (Obj.cells #[.int .i64 1, .int .i64 300] 29)).alloc (Obj.cells #[.int .i64 7] 3)).cell? ⟨w.heap.size, 3, none⟩ = some (.int .u64 E.fl) := kk.cell rfl
        have e4 : ((w2.alloc (Obj.cells #[.int .i64 1, .int .i64 300] 29)).alloc (Obj.cells #[.int .i64 7] 3)).cell? ⟨w.heap.size, 4, none⟩ = some (.int .u64 E.ct) := kk.cell rfl
        have e5 : ((w2.alloc (Obj.cells #[.int .i64 1, .int .i64 300] 29)).alloc (Obj.cells #[.int .i64 7] 3)).cell? ⟨w.heap.size, 5, none⟩ = some (.int .u64 E.at9) := kk.cell rfl
        have e6 : ((w2.alloc (Obj.cells #[.int .i64 1, .int .i64 300] 29)).alloc (Obj.cells #[.int .i64 7] 3)).cell? ⟨w.heap.size, 6, none⟩ = some (.int .u64 E.ls) := kk.cell rfl
        have f0 : ((w2.alloc (Obj.cells #[.int .i64 1, .int .i64 300] 29)).alloc (Obj.cells #[.int .i64 7] 3)).frozen? ⟨w.heap.size, 0, none⟩ = false := kk.free 0
        have f1 : ((w2.alloc (Obj.cells #[.int .i64 1, .int .i64 300] 29)).alloc (Obj.cells #[.int .i64 7] 3)).frozen? ⟨w.heap.size, 1, none⟩ = false := kk.free 1
        have f2 : ((w2.alloc (Obj.cells #[.int .i64 1, .int .i64 300] 29)).alloc (Obj.cells #[.int .i64 7] 3)).frozen? ⟨w.heap.size, 2, none⟩ = false := kk.free 2
        have f3 : ((w2.alloc (Obj.cells #[.int .i64 1, .int .i64 300] 29)).alloc (Obj.cells #[.int .i64 7] 3)).frozen? ⟨w.heap.size, 3, none⟩ = false := kk.free 3
        have f4 : ((w2.alloc (Obj.cells #[.int .i64 1, .int .i64 300] 29)).alloc (Obj.cells #[.int .i64 7] 3)).frozen? ⟨w.heap.size, 4, none⟩ = false := kk.free 4
        have f5 : ((w2.alloc (Obj.cells #[.int .i64 1, .int .i64 300] 29)).alloc (Obj.cells #[.int .i64 7] 3)).frozen? ⟨w.heap.size, 5, none⟩ = false := kk.free 5
        have f6 : ((w2.alloc (Obj.cells #[.int .i64 1, .int .i64 300] 29)).alloc (Obj.cells #[.int .i64 7] 3)).frozen? ⟨w.heap.size, 6, none⟩ = false := kk.free 6
        have HKK := hide k
        have HA1 := hide A1
        have HA3 := hide A3
        have HA2 := hide A2
        have HWQ := hide hwb
        clear hm k kk hk A1 A2 A3 hwb HK HZ HF HU HC1 HB1
        go_wp2_with fail
        have HPK := hide (show Pk w (((((((((w2.alloc (Obj.cells #[.int .i64 1, .int .i64 300] 29)).alloc (Obj.cells #[.int .i64 7] 3)).setCell ⟨w.heap.size, 0, none⟩ (.slice (some ⟨w2.heap.size + 1, 0, none⟩) 1 1)).setCell ⟨w.heap.size, 1, none⟩ (.slice (some ⟨w2.heap.size, 0, none⟩) 1 1)).setCell ⟨w.heap.size, 2, none⟩ (.int .i64 5)).setCell ⟨w.heap.size, 3, none⟩ (.int .u64 0)).setCell ⟨w.heap.size, 4, none⟩ (.int .u64 0)).setCell ⟨w.heap.size, 5, none⟩ (.int .u64 0)).setCell ⟨w.heap.size, 6, none⟩ (.int .u64 900)) (some ⟨w2.heap.size + 1, 0, none⟩) 1 1 (some ⟨w2.heap.size, 0, none⟩) 1 1 ⟨[7], [⟨1, 300⟩], 5, 0, 0, 0, 900⟩ from by
          have hgs := gset7 ((w2.alloc (Obj.cells #[.int .i64 1, .int .i64 300] 29)).alloc (Obj.cells #[.int .i64 7] 3)) w.heap.size (.slice (some ⟨w2.heap.size + 1, 0, none⟩) 1 1) (.slice (some ⟨w2.heap.size, 0, none⟩) 1 1) (.int .i64 5) (.int .u64 0) (.int .u64 0) (.int .u64 0) (.int .u64 900)
          have hz := zs_block (w := ((w2.alloc (Obj.cells #[.int .i64 1, .int .i64 300] 29)).alloc (Obj.cells #[.int .i64 7] 3))) (p := w2.heap.size + 1) (N := 7) (by omega) (by rw [HWQ.out]; exact HF2.out)
          have hf := (fs_block (w := w2.alloc (Obj.cells #[.int .i64 1, .int .i64 300] 29)) (p := w2.heap.size) (L := 1) (N := 300) (by unfold Fi.wf; simp only; omega) HF1.out).below HA2.out (Nat.le_refl _)
          rw [← HWQ.out] at hf
          have hk := HKK.out
          rw [← HWQ.out] at hk
          exact ⟨eset7 hk (.slice (some ⟨w2.heap.size + 1, 0, none⟩) 1 1) (.slice (some ⟨w2.heap.size, 0, none⟩) 1 1) (.int .i64 5) (.int .u64 0) (.int .u64 0) (.int .u64 0) (.int .u64 900), hz.gb hgs (fun a ha e => by cases ha; have : w2.heap.size + 1 = w.heap.size := Option.some.inj e; omega), hf.gb hgs (fun a ha e => by cases ha; have : w2.heap.size = w.heap.size := Option.some.inj e; omega), by decide, by decide⟩)
        have HBW := hide (show Below w.heap.size w (((((((((w2.alloc (Obj.cells #[.int .i64 1, .int .i64 300] 29)).alloc (Obj.cells #[.int .i64 7] 3)).setCell ⟨w.heap.size, 0, none⟩ (.slice (some ⟨w2.heap.size + 1, 0, none⟩) 1 1)).setCell ⟨w.heap.size, 1, none⟩ (.slice (some ⟨w2.heap.size, 0, none⟩) 1 1)).setCell ⟨w.heap.size, 2, none⟩ (.int .i64 5)).setCell ⟨w.heap.size, 3, none⟩ (.int .u64 0)).setCell ⟨w.heap.size, 4, none⟩ (.int .u64 0)).setCell ⟨w.heap.size, 5, none⟩ (.int .u64 0)).setCell ⟨w.heap.size, 6, none⟩ (.int .u64 900)) from by
          have hgs := gset7 ((w2.alloc (Obj.cells #[.int .i64 1, .int .i64 300] 29)).alloc (Obj.cells #[.int .i64 7] 3)) w.heap.size (.slice (some ⟨w2.heap.size + 1, 0, none⟩) 1 1) (.slice (some ⟨w2.heap.size, 0, none⟩) 1 1) (.int .i64 5) (.int .u64 0) (.int .u64 0) (.int .u64 0) (.int .u64 900)
          have hb := HA3.out
          rw [← HWQ.out] at hb
          exact (HB2.out.trans (hb.mono HB2.out.size)).grown hgs (Nat.le_trans HB2.out.size hb.size) (fun k hk => by have : w.heap.size = k := Option.some.inj hk; omega))
        clear HWQ HKK HA1 HA2 HA3 HF1 HF2
        generalize (((((((((w2.alloc (Obj.cells #[.int .i64 1, .int .i64 300] 29)).alloc (Obj.cells #[.int .i64 7] 3)).setCell ⟨w.heap.size, 0, none⟩ (.slice (some ⟨w2.heap.size + 1, 0, none⟩) 1 1)).setCell ⟨w.heap.size, 1, none⟩ (.slice (some ⟨w2.heap.size, 0, none⟩) 1 1)).setCell ⟨w.heap.size, 2, none⟩ (.int .i64 5)).setCell ⟨w.heap.size, 3, none⟩ (.int .u64 0)).setCell ⟨w.heap.size, 4, none⟩ (.int .u64 0)).setCell ⟨w.heap.size, 5, none⟩ (.int .u64 0)).setCell ⟨w.heap.size, 6, none⟩ (.int .u64 900)) = w3 at *
        generalize hda5 : (some ⟨w2.heap.size + 1, 0, none⟩ : Option Addr) = da5 at *
        generalize haa5 : (some ⟨w2.heap.size, 0, none⟩ : Option Addr) = aa5 at *
        obtain ⟨E5, hE5⟩ : ∃ E5 : Ed, (⟨[7], [⟨1, 300⟩], 5, 0, 0, 0, 900⟩ : Ed) = E5 := ⟨_, rfl⟩
        rw [hE5] at HPK
        have hE0 : E5.lg = 5 := by rw [← hE5]
        have hE1 : E5.fl = 0 := by rw [← hE5]
        have hE2 : E5.ct = 0 := by rw [← hE5]
        have hE3 : E5.at9 = 0 := by rw [← hE5]
        have hE4 : E5.ls = 900 := by rw [← hE5]
        clear hda5 haa5 hE5
        have k := HPK.out.k
        have e0 : w3.cell? ⟨w.heap.size, 0, none⟩ = some (.slice da5 1 1) := k.cell rfl
        have e1 : w3.cell? ⟨w.heap.size, 1, none⟩ = some (.slice aa5 1 1) := k.cell rfl
        have e2 : w3.cell? ⟨w.heap.size, 2, none⟩ = some (.int .i64 E5.lg) := k.cell rfl
        have e3 : w3.cell? ⟨w.heap.size, 3, none⟩ = some (.int .u64 E5.fl) := k.cell rfl
        have e4 : w3.cell? ⟨w.heap.size, 4, none⟩ = some (.int .u64 E5.ct) := k.cell rfl
        have e5 : w3.cell? ⟨w.heap.size, 5, none⟩ = some (.int .u64 E5.at9) := k.cell rfl
        have e6 : w3.cell? ⟨w.heap.size, 6, none⟩ = some (.int .u64 E5.ls) := k.cell rfl
        have hm := HPK.out.may
        have hpl := (emay_parts hm).1
        have hEl := ebd_len hm
        have HERm := hide (ebd_range hm HPK.out.u)
        have CE3 := hide (redit_any da5 1 1 aa5 1 1 E5 w3 HPK.out.z HPK.out.f hm HPK.out.u)
        have hEp : 0 < (ebd E5).length := ebd_pos hm
        have hFR : ByteL (fr 6 (ebd E5)) := fr_range 6 (ebd E5) (by omega) (by omega) (by omega) HERm.out
        have HFL := hide (fr_len 6 (ebd E5))
        have HFR := hide hFR
        unfold edV at CE3
        simp only [hE0, hE1, hE2, hE3, hE4] at CE3
        clear hE0 hE1 hE2 hE3 hE4
        clear hm hpl k hFR
        refine CE3.out.mono ?_
        rintro e w4 ⟨rfl, hb4⟩
        have HB4 := hide (HBW.out.trans (hb4.mono HBW.out.size))
        have hk4 := HPK.out.k.lt
        have hl4 : w.heap.size < w4.heap.size := Nat.lt_of_lt_of_le hk4 hb4.size
        obtain ⟨cp, w5, hcv, hcpl, hb5, hrm⟩ := rm_str w4 (fr 6 (ebd E5)) HFR.out (by rw [HFL.out]; unfold maxLen; omega)
        have hcpm : cp ≤ 9223372036854775807 := by have := hrm.out.max; unfold maxLen at this; omega
        obtain ⟨M, hM⟩ : ∃ M, (ebd E5).length = M := ⟨_, rfl⟩
        have HF := hide (show (fr 6 (ebd E5)).length = M + 12 from by rw [HFL.out, hM])
        rw [HF.out] at hcv hcpl
        rw [hM] at hEp hEl
        generalize fr 6 (ebd E5) = FZ at *
        obtain ⟨g, hg⟩ : ∃ g, w4.heap.size = g := ⟨_, rfl⟩
        rw [hg] at hcv hrm
        have HGW := hide (show w.heap.size + 1 ≤ g from by rw [← hg]; exact hl4)
        have zsz : (strOfNums FZ).size = M + 12 := by rw [str_size, HF.out]
        have hsub : IntKind.i64.wrap (((M + 12 : Nat) : Int) - 4) = ((M + 8 : Nat) : Int) := by
          simp [IntKind.wrap, IntKind.bits, IntKind.signed]
          omega
        have hsub2 : IntKind.i64.wrap ((M : Int) + 12 - 4) = ((M + 8 : Nat) : Int) := by
          simp [IntKind.wrap, IntKind.bits, IntKind.signed]
          omega
        have hsub3 : IntKind.i64.wrap ((M : Int) + 1) = ((M + 1 : Nat) : Int) := by
          simp [IntKind.wrap, IntKind.bits, IntKind.signed]
          omega
        obtain ⟨p, hp1, hp⟩ := place_of t2 65535 (by decide) (M : Int) M rfl hEp
        obtain ⟨y, hy1, hy⟩ := place_of t4 255 (by decide) ((M : Int) + 1) (M + 1) (by omega) (by omega)
        replace hp1 : (bits BinOp.and IntKind.i64 t2 65535).tmod (M : Int) = (p : Int) := hp1
        replace hy1 : (bits BinOp.and IntKind.i64 t4 255).tmod ((M : Int) + 1) = (y : Int) := hy1
        have hc8 : cut (some ⟨g, 0, none⟩) cp 8 = some ⟨g, 8, none⟩ := by unfold cut; rw [if_neg (by omega)]; rfl
        have hmr : IntKind.i64.wrap ((M : Int) - (y : Int)) = ((M - y : Nat) : Int) := by
          simp [IntKind.wrap, IntKind.bits, IntKind.signed]
          omega
        have cP := hrm.out.cell (8 + p) (by rw [HF.out]; omega)
        have fP := hrm.out.free (8 + p) (by omega)
        have hxr := xor_range (FZ.getD (8 + p) 0) t3
        have RM6 := hide (hrm.out.set (8 + p) (by rw [HF.out]; omega) _ hxr)
        have HB5 := hide (HB4.out.trans (hb5.out.mono HB4.out.size))
        have HB6 := hide (HB5.out.grown (fgb_set w5 ⟨g, 8 + p, none⟩ (.int .u8 (bits BinOp.xor IntKind.u8 (FZ.getD (8 + p) 0) t3))) HB5.out.size (fun k hk => by have : g = k := Option.some.inj hk; have := HGW.out; omega))
        have HF6 := hide (show (FZ.set (8 + p) (bits BinOp.xor IntKind.u8 (FZ.getD (8 + p) 0) t3)).length = M + 12 from by rw [List.length_set]; exact HF.out)
        have HC := hide (rm_bs RM6.out)
        generalize FZ.set (8 + p) (bits BinOp.xor IntKind.u8 (FZ.getD (8 + p) 0) t3) = F6 at *
        generalize FZ.getD (8 + p) 0 = z0 at *
        have hpi : (p : Int) < (M : Int) := by omega
        have hq8 : (8 : Int) ≤ ((M + 8 : Nat) : Int) := by omega
        have hq9 : ((M + 8 : Nat) : Int) ≤ (cp : Int) := by omega
        have hz1 : ((M - y : Nat) : Int) ≤ ((cp - 8 : Nat) : Int) := by omega
        have hcz : cut (some ⟨g, 8, none⟩) (cp - 8) 0 = some ⟨g, 8, none⟩ := by unfold cut; split <;> rfl
        have hmr2 : wrap64 ((M : Int) - (y : Int)) = ((M - y : Nat) : Int) := by unfold wrap64; omega
        have hlen1 : M + 8 - 8 = M := by omega
        clear hb5 hrm hg HERm hxr hM
        go_wp2_with fail
        generalize hw6 : w5.setCell ⟨g, 8 + p, none⟩ (.int .u8 (bits BinOp.xor IntKind.u8 z0 t3)) = w6 at *
        have HCC := hide (show Bs w6 (some ⟨g, 8, none⟩) (M - y) (cp - 8) (((F6.take (M + 8)).drop 8).take (M - y)) ∧ ByteL (((F6.take (M + 8)).drop 8).take (M - y)) from by
          have hc := HC.out
          rw [HF6.out] at hc
          have h1 := hc.cut 8 (M + 8) (by omega) (by omega)
          rw [hc8, hlen1] at h1
          have h2 := h1.cut 0 (M - y) (by omega) (by omega)
          rw [hcz, Nat.sub_zero, Nat.sub_zero, List.drop_zero] at h2
          exact ⟨h2, bs_range h2⟩)
        have HSB := hide (show ∃ X, Bs w6 a0 n0 c0 X ∧ ByteL X from ⟨zs, HBs.out w6 HB6.out, HZR.out⟩)
        have hMy : M - y ≤ 2000 := by omega
        have hcp8 : cp - 8 ≤ 9223372036854775807 := by omega
        have hn2 : n0 ≤ 2000 := by omega
        generalize ((F6.take (M + 8)).drop 8).take (M - y) = XC at *
        generalize M - y = mm at *
        generalize cp - 8 = cq at *
        clear hcv hcpl hcpm hEp hEl HF zsz hsub hsub2 hsub3 hp1 hp hy1 hy hc8 hmr cP fP RM6 HB5 HF6 HC hpi hq8 hq9 hz1 hcz hmr2 hlen1 HFR HFL HGW HB4 hw6 CE3 hb4
        clear e0 e1 e2 e3 e4 e5 e6
        simp only [Nat.add_sub_cancel]
        go_loopw [0, 13] (fun t u wr => ∃ (i : Nat) (ab : Option Addr) (lb cb : Nat), u = .int .i64 i ∧ i ≤ 2 ∧ t = .slice ab lb cb ∧ lb ≤ 2000 ∧ cb ≤ 9223372036854775807 ∧ Hid (∃ X, Bs wr ab lb cb X ∧ ByteL X) ∧ Hid (Below w6.heap.size w6 wr)) (fun _ u _ => 2 - (intOf u).toNat)
        case atStart => exact ⟨0, a0, n0, c0, rfl, by omega, rfl, hn2, hc0, HSB, hide (Below.refl _ _)⟩
        case round =>
          obtain ⟨i, ab, lb, cb, rfl, hi, rfl, hlb, hcb, hX, hBr⟩ := hrel
          by_cases h2 : i < 2
          · by_cases h1 : i = 1
            · subst h1
              obtain ⟨X, hbs, hxr⟩ : ∃ X, Bs wr (some ⟨g, 8, none⟩) mm cq X ∧ ByteL X := ⟨XC, HCC.out.1.below hBr.out (Nat.le_refl _), HCC.out.2⟩
              clear hX
              have HXS := hide hbs
              have HXR := hide hxr
              have CR := hide (read_any (some ⟨g, 8, none⟩) mm cq X wr (by omega) (by omega) hbs)
              clear hbs hxr
              go_wp2_with fail
              refine CR.out.mono ?_
              rintro e y1 hr1
              obtain ⟨da1, dn1, dc1, aa1, an1, ac1, rfl, hz1, hf1, l1, l2, hb1⟩ := rda_form hr1
              obtain ⟨G, hG⟩ : ∃ G, (red X).getD zE = G := ⟨_, rfl⟩
              obtain ⟨r, hr⟩ : ∃ r : Int, (if (red X).isSome = true then 0 else 3) = r := ⟨_, rfl⟩
              rw [hG] at hz1 hf1
              have HGE := hide hG
              have HRE := hide hr
              have A1 := (Below.refl _ y1).alloc (Nat.le_refl _) (Obj.cells #[.slice da1 dn1 dc1, .slice aa1 an1 ac1, .int .i64 G.lg, .int .u64 G.fl, .int .u64 G.ct, .int .u64 G.at9, .int .u64 G.ls] 31)
              have hk1 := ek_new y1 #[.slice da1 dn1 dc1, .slice aa1 an1 ac1, .int .i64 G.lg, .int .u64 G.fl, .int .u64 G.ct, .int .u64 G.at9, .int .u64 G.ls] 31
              have hcv := conv_bs (HXS.out.below (bmore15 hb1 A1) (Nat.le_refl _))
              have CD := hide (rread_any (strOfNums X) X (y1.alloc (Obj.cells #[.slice da1 dn1 dc1, .slice aa1 an1 ac1, .int .i64 G.lg, .int .u64 G.fl, .int .u64 G.ct, .int .u64 G.at9, .int .u64 G.ls] 31)) (by rw [str_size, HXS.out.1]; omega) (sz_of X (range_of HXR.out)) HXR.out)
              have HZ1 := hide (hz1.below A1 (Nat.le_refl _))
              have HF1 := hide (hf1.below A1 (Nat.le_refl _))
              have HK1 := hide hk1
              have HBB := hide (bmore15 hBr.out (bmore15 hb1 A1))
              have hkl : y1.heap.size < (y1.alloc (Obj.cells #[.slice da1 dn1 dc1, .slice aa1 an1 ac1, .int .i64 G.lg, .int .u64 G.fl, .int .u64 G.ct, .int .u64 G.at9, .int .u64 G.ls] 31)).heap.size := by simp
              have hrr : (r != r) = false := by simp
              unfold edV
              rw [hG, hr]
              generalize strOfNums X = SX at *
              have HBX := hide (bmore15 hb1 A1)
              clear hr1 hz1 hf1 hb1 CR A1 hk1 hG hr hBr
              go_wp2_with fail
              refine CD.out.mono ?_
              rintro e y3 hr3
              obtain ⟨da3, dn3, dc3, aa3, an3, ac3, rfl, hz3, hf3, l3, l4, hb3⟩ := rda_form hr3
              rw [HGE.out] at hz3 hf3
              have A3 := (Below.refl _ y3).alloc (Nat.le_refl _) (Obj.cells #[.slice da3 dn3 dc3, .slice aa3 an3 ac3, .int .i64 G.lg, .int .u64 G.fl, .int .u64 G.ct, .int .u64 G.at9, .int .u64 G.ls] 31)
              have k1 := HK1.out.below (bmore15 hb3 A3) HK1.out.lt
              have k3 := ek_new y3 #[.slice da3 dn3 dc3, .slice aa3 an3 ac3, .int .i64 G.lg, .int .u64 G.fl, .int .u64 G.ct, .int .u64 G.at9, .int .u64 G.ls] 31
              have p10 : (y3.alloc (Obj.cells #[.slice da3 dn3 dc3, .slice aa3 an3 ac3, .int .i64 G.lg, .int .u64 G.fl, .int .u64 G.ct, .int .u64 G.at9, .int .u64 G.ls] 31)).cell? ⟨y1.heap.size, 0, none⟩ = some (.slice da1 dn1 dc1) := k1.cell rfl
              have p11 : (y3.alloc (Obj.cells #[.slice da3 dn3 dc3, .slice aa3 an3 ac3, .int .i64 G.lg, .int .u64 G.fl, .int .u64 G.ct, .int .u64 G.at9, .int .u64 G.ls] 31)).cell? ⟨y1.heap.size, 1, none⟩ = some (.slice aa1 an1 ac1) := k1.cell rfl
              have p12 : (y3.alloc (Obj.cells #[.slice da3 dn3 dc3, .slice aa3 an3 ac3, .int .i64 G.lg, .int .u64 G.fl, .int .u64 G.ct, .int .u64 G.at9, .int .u64 G.ls] 31)).cell? ⟨y1.heap.size, 2, none⟩ = some (.int .i64 G.lg) := k1.cell rfl
              have p13 : (y3.alloc (Obj.cells #[.slice da3 dn3 dc3, .slice aa3 an3 ac3, .int .i64 G.lg, .int .u64 G.fl, .int .u64 G.ct, .int .u64 G.at9, .int .u64 G.ls] 31)).cell? ⟨y1.heap.size, 3, none⟩ = some (.int .u64 G.fl) := k1.cell rfl
              have p14 : (y3.alloc (Obj.cells #[.slice da3 dn3 dc3, .slice aa3 an3 ac3, .int .i64 G.lg, .int .u64 G.fl, .int .u64 G.ct, .int .u64 G.at9, .int .u64 G.ls] 31)).cell? ⟨y1.heap.size, 4, none⟩ = some (.int .u64 G.ct) := k1.cell rfl
              have p15 : (y3.alloc (Obj.cells #[.slice da3 dn3 dc3, .slice aa3 an3 ac3, .int .i64 G.lg, .int .u64 G.fl, .int .u64 G.ct, .int .u64 G.at9, .int .u64 G.ls] 31)).cell? ⟨y1.heap.size, 5, none⟩ = some (.int .u64 G.at9) := k1.cell rfl
              have p16 : (y3.alloc (Obj.cells #[.slice da3 dn3 dc3, .slice aa3 an3 ac3, .int .i64 G.lg, .int .u64 G.fl, .int .u64 G.ct, .int .u64 G.at9, .int .u64 G.ls] 31)).cell? ⟨y1.heap.size, 6, none⟩ = some (.int .u64 G.ls) := k1.cell rfl
              have p30 : (y3.alloc (Obj.cells #[.slice da3 dn3 dc3, .slice aa3 an3 ac3, .int .i64 G.lg, .int .u64 G.fl, .int .u64 G.ct, .int .u64 G.at9, .int .u64 G.ls] 31)).cell? ⟨y3.heap.size, 0, none⟩ = some (.slice da3 dn3 dc3) := k3.cell rfl
              have p31 : (y3.alloc (Obj.cells #[.slice da3 dn3 dc3, .slice aa3 an3 ac3, .int .i64 G.lg, .int .u64 G.fl, .int .u64 G.ct, .int .u64 G.at9, .int .u64 G.ls] 31)).cell? ⟨y3.heap.size, 1, none⟩ = some (.slice aa3 an3 ac3) := k3.cell rfl
              have p32 : (y3.alloc (Obj.cells #[.slice da3 dn3 dc3, .slice aa3 an3 ac3, .int .i64 G.lg, .int .u64 G.fl, .int .u64 G.ct, .int .u64 G.at9, .int .u64 G.ls] 31)).cell? ⟨y3.heap.size, 2, none⟩ = some (.int .i64 G.lg) := k3.cell rfl
              have p33 : (y3.alloc (Obj.cells #[.slice da3 dn3 dc3, .slice aa3 an3 ac3, .int .i64 G.lg, .int .u64 G.fl, .int .u64 G.ct, .int .u64 G.at9, .int .u64 G.ls] 31)).cell? ⟨y3.heap.size, 3, none⟩ = some (.int .u64 G.fl) := k3.cell rfl
              have p34 : (y3.alloc (Obj.cells #[.slice da3 dn3 dc3, .slice aa3 an3 ac3, .int .i64 G.lg, .int .u64 G.fl, .int .u64 G.ct, .int .u64 G.at9, .int .u64 G.ls] 31)).cell? ⟨y3.heap.size, 4, none⟩ = some (.int .u64 G.ct) := k3.cell rfl
              have p35 : (y3.alloc (Obj.cells #[.slice da3 dn3 dc3, .slice aa3 an3 ac3, .int .i64 G.lg, .int .u64 G.fl, .int .u64 G.ct, .int .u64 G.at9, .int .u64 G.ls] 31)).cell? ⟨y3.heap.size, 5, none⟩ = some (.int .u64 G.at9) := k3.cell rfl
              have p36 : (y3.alloc (Obj.cells #[.slice da3 dn3 dc3, .slice aa3 an3 ac3, .int .i64 G.lg, .int .u64 G.fl, .int .u64 G.ct, .int .u64 G.at9, .int .u64 G.ls] 31)).cell? ⟨y3.heap.size, 6, none⟩ = some (.int .u64 G.ls) := k3.cell rfl
              have HBC := hide (bmore15 HBB.out (bmore15 hb3 A3))
              have HXX := hide (show ∃ X, Bs (y3.alloc (Obj.cells #[.slice da3 dn3 dc3, .slice aa3 an3 ac3, .int .i64 G.lg, .int .u64 G.fl, .int .u64 G.ct, .int .u64 G.at9, .int .u64 G.ls] 31)) (some ⟨g, 8, none⟩) mm cq X ∧ ByteL X from ⟨X, (HXS.out.below (bmore15 HBX.out (bmore15 hb3 A3)) (Nat.le_refl _)), HXR.out⟩)
              have CS := hide ((esame_any da1 aa1 da3 aa3 dn1 dc1 an1 ac1 dn3 dc3 an3 ac3 G G (y3.alloc (Obj.cells #[.slice da3 dn3 dc3, .slice aa3 an3 ac3, .int .i64 G.lg, .int .u64 G.fl, .int .u64 G.ct, .int .u64 G.at9, .int .u64 G.ls] 31)) (HZ1.out.below (bmore15 hb3 A3) (Nat.le_refl _)) (HF1.out.below (bmore15 hb3 A3) (Nat.le_refl _)) (hz3.below A3 (Nat.le_refl _)) (hf3.below A3 (Nat.le_refl _)) (by omega) (by omega) (by omega) (by omega)).mono (R' := fun e w' => e = .returned (.bool true) ∧ Below (y3.alloc (Obj.cells #[.slice da3 dn3 dc3, .slice aa3 an3 ac3, .int .i64 G.lg, .int .u64 G.fl, .int .u64 G.ct, .int .u64 G.at9, .int .u64 G.ls] 31)).heap.size (y3.alloc (Obj.cells #[.slice da3 dn3 dc3, .slice aa3 an3 ac3, .int .i64 G.lg, .int .u64 G.fl, .int .u64 G.ct, .int .u64 G.at9, .int .u64 G.ls] 31)) w') fun e w' ⟨o, h1, h2, h3⟩ => by rw [h2.2 rfl] at h1; exact ⟨h1, h3⟩)
              have hl3 : y3.heap.size < (y3.alloc (Obj.cells #[.slice da3 dn3 dc3, .slice aa3 an3 ac3, .int .i64 G.lg, .int .u64 G.fl, .int .u64 G.ct, .int .u64 G.at9, .int .u64 G.ls] 31)).heap.size := by simp
              unfold edV at CS ⊢
              rw [HGE.out, HRE.out]
              clear hr3 hz3 hf3 hb3 CD A3 k1 k3 HGE HRE HXS HXR HZ1 HF1 HK1 HBB HBX hcv
              go_wp2_with fail
              refine CS.out.mono ?_
              rintro e y5 ⟨rfl, hb5⟩
              have HBD := hide (bmore15 HBC.out hb5)
              have HXY := hide (show ∃ X, Bs y5 (some ⟨g, 8, none⟩) mm cq X ∧ ByteL X from by
                obtain ⟨X, h1, h2⟩ := HXX.out
                exact ⟨X, h1.below hb5 (Nat.le_refl _), h2⟩)
              clear CS hb5 HBC HXX p10 p11 p12 p13 p14 p15 p16 p30 p31 p32 p33 p34 p35 p36
              go_wp2
              go_roundw
              case rel => exact ⟨2, some ⟨g, 8, none⟩, mm, cq, by first | rfl | go_num, by omega, rfl, hMy, hcp8, HXY, HBD⟩
              case measure => first | (simp [intOf]; done) | (simp [intOf]; omega)
            · obtain rfl : i = 0 := by omega
              obtain ⟨X, hbs, hxr⟩ := hX.out
              clear hX
              have HXS := hide hbs
              have HXR := hide hxr
              have CR := hide (read_any (ab) lb cb X wr (by omega) (by omega) hbs)
              clear hbs hxr
              go_wp2_with fail
              refine CR.out.mono ?_
              rintro e y1 hr1
              obtain ⟨da1, dn1, dc1, aa1, an1, ac1, rfl, hz1, hf1, l1, l2, hb1⟩ := rda_form hr1
              obtain ⟨G, hG⟩ : ∃ G, (red X).getD zE = G := ⟨_, rfl⟩
              obtain ⟨r, hr⟩ : ∃ r : Int, (if (red X).isSome = true then 0 else 3) = r := ⟨_, rfl⟩
              rw [hG] at hz1 hf1
              have HGE := hide hG
              have HRE := hide hr
              have A1 := (Below.refl _ y1).alloc (Nat.le_refl _) (Obj.cells #[.slice da1 dn1 dc1, .slice aa1 an1 ac1, .int .i64 G.lg, .int .u64 G.fl, .int .u64 G.ct, .int .u64 G.at9, .int .u64 G.ls] 31)
              have hk1 := ek_new y1 #[.slice da1 dn1 dc1, .slice aa1 an1 ac1, .int .i64 G.lg, .int .u64 G.fl, .int .u64 G.ct, .int .u64 G.at9, .int .u64 G.ls] 31
              have hcv := conv_bs (HXS.out.below (bmore15 hb1 A1) (Nat.le_refl _))
              have CD := hide (rread_any (strOfNums X) X (y1.alloc (Obj.cells #[.slice da1 dn1 dc1, .slice aa1 an1 ac1, .int .i64 G.lg, .int .u64 G.fl, .int .u64 G.ct, .int .u64 G.at9, .int .u64 G.ls] 31)) (by rw [str_size, HXS.out.1]; omega) (sz_of X (range_of HXR.out)) HXR.out)
              have HZ1 := hide (hz1.below A1 (Nat.le_refl _))
              have HF1 := hide (hf1.below A1 (Nat.le_refl _))
              have HK1 := hide hk1
              have HBB := hide (bmore15 hBr.out (bmore15 hb1 A1))
              have hkl : y1.heap.size < (y1.alloc (Obj.cells #[.slice da1 dn1 dc1, .slice aa1 an1 ac1, .int .i64 G.lg, .int .u64 G.fl, .int .u64 G.ct, .int .u64 G.at9, .int .u64 G.ls] 31)).heap.size := by simp
              have hrr : (r != r) = false := by simp
              unfold edV
              rw [hG, hr]
              generalize strOfNums X = SX at *
              have HBX := hide (bmore15 hb1 A1)
              clear hr1 hz1 hf1 hb1 CR A1 hk1 hG hr hBr
              go_wp2_with fail
              refine CD.out.mono ?_
              rintro e y3 hr3
              obtain ⟨da3, dn3, dc3, aa3, an3, ac3, rfl, hz3, hf3, l3, l4, hb3⟩ := rda_form hr3
              rw [HGE.out] at hz3 hf3
              have A3 := (Below.refl _ y3).alloc (Nat.le_refl _) (Obj.cells #[.slice da3 dn3 dc3, .slice aa3 an3 ac3, .int .i64 G.lg, .int .u64 G.fl, .int .u64 G.ct, .int .u64 G.at9, .int .u64 G.ls] 31)
              have k1 := HK1.out.below (bmore15 hb3 A3) HK1.out.lt
              have k3 := ek_new y3 #[.slice da3 dn3 dc3, .slice aa3 an3 ac3, .int .i64 G.lg, .int .u64 G.fl, .int .u64 G.ct, .int .u64 G.at9, .int .u64 G.ls] 31
              have p10 : (y3.alloc (Obj.cells #[.slice da3 dn3 dc3, .slice aa3 an3 ac3, .int .i64 G.lg, .int .u64 G.fl, .int .u64 G.ct, .int .u64 G.at9, .int .u64 G.ls] 31)).cell? ⟨y1.heap.size, 0, none⟩ = some (.slice da1 dn1 dc1) := k1.cell rfl
              have p11 : (y3.alloc (Obj.cells #[.slice da3 dn3 dc3, .slice aa3 an3 ac3, .int .i64 G.lg, .int .u64 G.fl, .int .u64 G.ct, .int .u64 G.at9, .int .u64 G.ls] 31)).cell? ⟨y1.heap.size, 1, none⟩ = some (.slice aa1 an1 ac1) := k1.cell rfl
              have p12 : (y3.alloc (Obj.cells #[.slice da3 dn3 dc3, .slice aa3 an3 ac3, .int .i64 G.lg, .int .u64 G.fl, .int .u64 G.ct, .int .u64 G.at9, .int .u64 G.ls] 31)).cell? ⟨y1.heap.size, 2, none⟩ = some (.int .i64 G.lg) := k1.cell rfl
              have p13 : (y3.alloc (Obj.cells #[.slice da3 dn3 dc3, .slice aa3 an3 ac3, .int .i64 G.lg, .int .u64 G.fl, .int .u64 G.ct, .int .u64 G.at9, .int .u64 G.ls] 31)).cell? ⟨y1.heap.size, 3, none⟩ = some (.int .u64 G.fl) := k1.cell rfl
              have p14 : (y3.alloc (Obj.cells #[.slice da3 dn3 dc3, .slice aa3 an3 ac3, .int .i64 G.lg, .int .u64 G.fl, .int .u64 G.ct, .int .u64 G.at9, .int .u64 G.ls] 31)).cell? ⟨y1.heap.size, 4, none⟩ = some (.int .u64 G.ct) := k1.cell rfl
              have p15 : (y3.alloc (Obj.cells #[.slice da3 dn3 dc3, .slice aa3 an3 ac3, .int .i64 G.lg, .int .u64 G.fl, .int .u64 G.ct, .int .u64 G.at9, .int .u64 G.ls] 31)).cell? ⟨y1.heap.size, 5, none⟩ = some (.int .u64 G.at9) := k1.cell rfl
              have p16 : (y3.alloc (Obj.cells #[.slice da3 dn3 dc3, .slice aa3 an3 ac3, .int .i64 G.lg, .int .u64 G.fl, .int .u64 G.ct, .int .u64 G.at9, .int .u64 G.ls] 31)).cell? ⟨y1.heap.size, 6, none⟩ = some (.int .u64 G.ls) := k1.cell rfl
              have p30 : (y3.alloc (Obj.cells #[.slice da3 dn3 dc3, .slice aa3 an3 ac3, .int .i64 G.lg, .int .u64 G.fl, .int .u64 G.ct, .int .u64 G.at9, .int .u64 G.ls] 31)).cell? ⟨y3.heap.size, 0, none⟩ = some (.slice da3 dn3 dc3) := k3.cell rfl
              have p31 : (y3.alloc (Obj.cells #[.slice da3 dn3 dc3, .slice aa3 an3 ac3, .int .i64 G.lg, .int .u64 G.fl, .int .u64 G.ct, .int .u64 G.at9, .int .u64 G.ls] 31)).cell? ⟨y3.heap.size, 1, none⟩ = some (.slice aa3 an3 ac3) := k3.cell rfl
              have p32 : (y3.alloc (Obj.cells #[.slice da3 dn3 dc3, .slice aa3 an3 ac3, .int .i64 G.lg, .int .u64 G.fl, .int .u64 G.ct, .int .u64 G.at9, .int .u64 G.ls] 31)).cell? ⟨y3.heap.size, 2, none⟩ = some (.int .i64 G.lg) := k3.cell rfl
              have p33 : (y3.alloc (Obj.cells #[.slice da3 dn3 dc3, .slice aa3 an3 ac3, .int .i64 G.lg, .int .u64 G.fl, .int .u64 G.ct, .int .u64 G.at9, .int .u64 G.ls] 31)).cell? ⟨y3.heap.size, 3, none⟩ = some (.int .u64 G.fl) := k3.cell rfl
              have p34 : (y3.alloc (Obj.cells #[.slice da3 dn3 dc3, .slice aa3 an3 ac3, .int .i64 G.lg, .int .u64 G.fl, .int .u64 G.ct, .int .u64 G.at9, .int .u64 G.ls] 31)).cell? ⟨y3.heap.size, 4, none⟩ = some (.int .u64 G.ct) := k3.cell rfl
              have p35 : (y3.alloc (Obj.cells #[.slice da3 dn3 dc3, .slice aa3 an3 ac3, .int .i64 G.lg, .int .u64 G.fl, .int .u64 G.ct, .int .u64 G.at9, .int .u64 G.ls] 31)).cell? ⟨y3.heap.size, 5, none⟩ = some (.int .u64 G.at9) := k3.cell rfl
              have p36 : (y3.alloc (Obj.cells #[.slice da3 dn3 dc3, .slice aa3 an3 ac3, .int .i64 G.lg, .int .u64 G.fl, .int .u64 G.ct, .int .u64 G.at9, .int .u64 G.ls] 31)).cell? ⟨y3.heap.size, 6, none⟩ = some (.int .u64 G.ls) := k3.cell rfl
              have HBC := hide (bmore15 HBB.out (bmore15 hb3 A3))
              have HXX := hide (show ∃ X, Bs (y3.alloc (Obj.cells #[.slice da3 dn3 dc3, .slice aa3 an3 ac3, .int .i64 G.lg, .int .u64 G.fl, .int .u64 G.ct, .int .u64 G.at9, .int .u64 G.ls] 31)) (ab) lb cb X ∧ ByteL X from ⟨X, (HXS.out.below (bmore15 HBX.out (bmore15 hb3 A3)) (Nat.le_refl _)), HXR.out⟩)
              have CS := hide ((esame_any da1 aa1 da3 aa3 dn1 dc1 an1 ac1 dn3 dc3 an3 ac3 G G (y3.alloc (Obj.cells #[.slice da3 dn3 dc3, .slice aa3 an3 ac3, .int .i64 G.lg, .int .u64 G.fl, .int .u64 G.ct, .int .u64 G.at9, .int .u64 G.ls] 31)) (HZ1.out.below (bmore15 hb3 A3) (Nat.le_refl _)) (HF1.out.below (bmore15 hb3 A3) (Nat.le_refl _)) (hz3.below A3 (Nat.le_refl _)) (hf3.below A3 (Nat.le_refl _)) (by omega) (by omega) (by omega) (by omega)).mono (R' := fun e w' => e = .returned (.bool true) ∧ Below (y3.alloc (Obj.cells #[.slice da3 dn3 dc3, .slice aa3 an3 ac3, .int .i64 G.lg, .int .u64 G.fl, .int .u64 G.ct, .int .u64 G.at9, .int .u64 G.ls] 31)).heap.size (y3.alloc (Obj.cells #[.slice da3 dn3 dc3, .slice aa3 an3 ac3, .int .i64 G.lg, .int .u64 G.fl, .int .u64 G.ct, .int .u64 G.at9, .int .u64 G.ls] 31)) w') fun e w' ⟨o, h1, h2, h3⟩ => by rw [h2.2 rfl] at h1; exact ⟨h1, h3⟩)
              have hl3 : y3.heap.size < (y3.alloc (Obj.cells #[.slice da3 dn3 dc3, .slice aa3 an3 ac3, .int .i64 G.lg, .int .u64 G.fl, .int .u64 G.ct, .int .u64 G.at9, .int .u64 G.ls] 31)).heap.size := by simp
              unfold edV at CS ⊢
              rw [HGE.out, HRE.out]
              clear hr3 hz3 hf3 hb3 CD A3 k1 k3 HGE HRE HXS HXR HZ1 HF1 HK1 HBB HBX hcv
              go_wp2_with fail
              refine CS.out.mono ?_
              rintro e y5 ⟨rfl, hb5⟩
              have HBD := hide (bmore15 HBC.out hb5)
              have HXY := hide (show ∃ X, Bs y5 (ab) lb cb X ∧ ByteL X from by
                obtain ⟨X, h1, h2⟩ := HXX.out
                exact ⟨X, h1.below hb5 (Nat.le_refl _), h2⟩)
              clear CS hb5 HBC HXX p10 p11 p12 p13 p14 p15 p16 p30 p31 p32 p33 p34 p35 p36
              go_wp2
              go_roundw
              case rel => exact ⟨1, ab, lb, cb, by first | rfl | go_num, by omega, rfl, hlb, hcb, HXY, HBD⟩
              case measure => first | (simp [intOf]; done) | (simp [intOf]; omega)
          · obtain rfl : i = 2 := by omega
            go_wp2_with (go_at_call 13; refine (HA.out _).mono ?_; rintro e w9 ⟨rfl, hb9⟩)
            go_ret
            exact ⟨rfl, (HB6.out.trans (hBr.out.mono HB6.out.size)).trans (hb9.mono (Nat.le_trans HB6.out.size hBr.out.size))⟩
        
end

end Go.Proofs.Ytgopcaemgcnapaa.Clep
