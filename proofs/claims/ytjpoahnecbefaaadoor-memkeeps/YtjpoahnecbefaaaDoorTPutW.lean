/- What List.Put does when called. Conditions: fewer than 2^40 items. -/
import Derived.Test.YtjpoahnecbefaaaDoorTPut
namespace Go.Proofs.YtjpoahnecbefaaaDoor.Clep
open Go.RowKit
set_option linter.unusedVariables false

set_option maxHeartbeats 800000 in
theorem put_bad (w : World) (L : Nat) (S K T V X n : Int) (hb : okI S K T V X = false ∨ ¬ (1 ≤ n ∧ n ≤ 6)) :
    Calls Tryd.prog 22 #[.pointer (some ⟨L, 0, none⟩), .agg #[.int .i64 S, .int .i64 K, .int .u64 T, .int .u64 V, .int .i64 X], .int .i64 n] w fun e w' =>
      e = .returned (.tuple #[.bool false, .int .i64 1]) ∧ Below w.heap.size w w' := by
  have B0 := hide ((Below.refl _ w).alloc (Nat.le_refl _) (Obj.cells #[Value.int IntKind.i64 S, Value.int IntKind.i64 K, Value.int IntKind.u64 T, Value.int IntKind.u64 V, Value.int IntKind.i64 X] 32))
  have HO := hide (ok_any S K T V X)
  have HH := hide (isHeight_any n)
  cases ho : okI S K T V X with
  | false =>
    rw [ho] at HO
    clear ho hb
    go_enter Tryd.func22, Tryd.ntmps22
    go_wp2_with fail
    refine (HO.out _).mono ?_
    rintro e w1 ⟨rfl, b1⟩
    have B1 := hide (bmore B0.out b1)
    clear b1 B0
    go_wp2
    go_ret2
    exact ⟨rfl, B1.out⟩
  | true =>
    rw [ho] at HO hb
    have hh : decide (1 ≤ n ∧ n ≤ 6) = false := by simp at hb; simp; omega
    rw [hh] at HH
    clear ho hb hh
    go_enter Tryd.func22, Tryd.ntmps22
    go_wp2_with fail
    refine (HO.out _).mono ?_
    rintro e w1 ⟨rfl, b1⟩
    have B1 := hide (bmore B0.out b1)
    clear b1 B0
    go_wp2_with fail
    refine (HH.out _).mono ?_
    rintro e w2 ⟨rfl, rfl⟩
    go_wp2
    go_ret2
    exact ⟨rfl, B1.out⟩

theorem done_same {w w' : World} {S : Sk} (h : Hp w S (S.f :: S.l)) (hp : Pu S) (hb : Below w.heap.size w w') : Done w S w' S.abs :=
  ⟨S, rfl, h.keep hb, hp, rfl, fun c hc => .inl hc, Ch.of hb⟩

set_option maxHeartbeats 2000000 in
theorem put_good (w : World) (Z : Sk) (S K T V X : Int) (m : Nat) (hm : 1 ≤ m ∧ m ≤ 6) (hok : okI S K T V X = true) (hw : It.wf ⟨S, K, T, V, X⟩) (h : Hp w Z (Z.f :: Z.l)) (hp : Pu Z) (hn : Z.n < 1099511627776) :
    Calls Tryd.prog 22 #[.pointer (some ⟨Z.L, 0, none⟩), .agg #[.int .i64 S, .int .i64 K, .int .u64 T, .int .u64 V, .int .i64 X], .int .i64 m] w fun e w' =>
      e = .returned (.tuple #[.bool (putW ⟨S, K, T, V, X⟩ m Z.abs).1, .int .i64 0]) ∧ Done w Z w' (putW ⟨S, K, T, V, X⟩ m Z.abs).2 := by
  obtain ⟨w0, hw0⟩ : ∃ w0, w0 = w.alloc (Obj.cells #[Value.int IntKind.i64 S, Value.int IntKind.i64 K, Value.int IntKind.u64 T, Value.int IntKind.u64 V, Value.int IntKind.i64 X] 32) := ⟨_, rfl⟩
  have B0 : Below w.heap.size w w0 := by rw [hw0]; exact (Below.refl _ _).alloc (Nat.le_refl _) _
  have hx := vi_new w S K T V X
  rw [← hw0] at hx
  have HX := hide hx
  have HB0 := hide B0
  have HO := hide (ok_any S K T V X)
  rw [hok] at HO
  have HH := hide (isHeight_any m)
  rw [show decide (1 ≤ (m : Int) ∧ (m : Int) ≤ 6) = true from by simp; omega] at HH
  obtain ⟨R, hR⟩ : ∃ R, R = w.heap.size := ⟨_, rfl⟩
  have HR := hide hR
  rw [← hR] at HX
  have H0 := hide h
  have HP := hide hp
  have HM := hide hm
  have HN := hide hn
  have HWF := hide hw
  clear h hp hm hok B0 hx hn hw
  go_enter Tryd.func22, Tryd.ntmps22
  go_wp2_with fail
  rw [← hw0, ← hR]
  clear hw0 hR
  refine (HO.out _).mono ?_
  rintro e w1 ⟨rfl, b1⟩
  have B1 := hide (bmore HB0.out b1)
  have hv := HX.out.keep b1
  have HX1 := hide hv
  clear b1 HX HB0
  go_wp2_with fail
  refine (HH.out _).mono ?_
  rintro e w2 ⟨rfl, rfl⟩
  unfold Vi at hv
  simp only [Nat.zero_add] at hv
  obtain ⟨v0, v1, v2, v3, v4⟩ := hv
  have hB := hide (build_any w2 S K T V X m HM.out)
  go_wp2_with fail
  refine hB.out.mono ?_
  rintro e w3 ⟨rfl, hbt⟩
  have BT := hide hbt
  have B3 := hide (bmore B1.out hbt.b)
  have HX3 := hide (HX1.out.keep hbt.b)
  have h2 := H0.out.keep B1.out
  obtain ⟨t, et⟩ : ∃ t, t = w2.heap.size + 2 := ⟨_, rfl⟩
  have ht : t ∉ Z.f :: Z.l := fun e => by have := (h2.tw t e).tow.lt; omega
  obtain ⟨Y, eY⟩ : ∃ Y, Y = Z.add (w2.heap.size + 2) (w2.heap.size + 1) w2.heap.size m ⟨S, K, T, V, X⟩ := ⟨_, rfl⟩
  have hY := hp_add h2 HM.out hbt
  have hpY := (pu_add HP.out (w2.heap.size + 2) (w2.heap.size + 1) w2.heap.size m ⟨S, K, T, V, X⟩ (by rw [← et]; exact ht)).1
  rw [← eY] at hY hpY
  rw [← et] at hY ⊢
  have hYx : Y.x t = ⟨S, K, T, V, X⟩ := by rw [eY, et]; exact up_same _ _ _
  have hYm : Y.m t = m := by rw [eY, et]; exact up_same _ _ _
  have hYL : Y.L = Z.L := by rw [eY]; rfl
  have hYf : Y.f = Z.f := by rw [eY]; rfl
  have hYl : Y.l = Z.l := by rw [eY]; rfl
  have hYn : Y.n = Z.n := by rw [eY]; rfl
  have hts : ∀ s ∈ Y.f :: Y.l, s ∈ t :: Z.f :: Z.l := fun s hs => by rw [hYf, hYl] at hs; exact List.mem_cons_of_mem _ hs
  have hYlt : ∀ s ∈ Z.l, Y.x s = Z.x s := fun s hs => by
    have hne : s ≠ w2.heap.size + 2 := fun e => ht (by rw [et, ← e]; simp [hs])
    rw [eY]; exact up_other _ _ _ hne
  have hlev : Y.lev 0 = Z.l := by rw [lev0 hpY, hYl]
  obtain ⟨o, ho⟩ : ∃ o, be (Z.lt ⟨S, K, T, V, X⟩) (Z.lev 0) = o := ⟨_, rfl⟩
  have hbo : be (Y.lt (Y.x t)) (Y.lev 0) = o := by
    rw [hYx, hlev, ← ho, lev0 HP.out]
    exact be_congr fun s hs => by show (Y.x s).less _ = (Z.x s).less _; rw [hYlt s hs]
  obtain ⟨d, hd⟩ : ∃ d, thereIs Z ⟨S, K, T, V, X⟩ o = d := ⟨_, rfl⟩
  have hobl : ∀ b, o = some b → b ∈ Z.l := fun b hb => by
    have := (be_mem _ _ b (ho.trans hb)).1
    rwa [lev0 HP.out] at this
  have hdY : thereIs Y (Y.x t) o = d := by
    rw [hYx, ← hd]
    unfold thereIs
    cases hoo : o with
    | none => rfl
    | some b =>
      show (Y.x b).same _ = (Z.x b).same _
      rw [hYlt b (hobl b hoo)]
  have CJ := hide (join_at Z.L w3 Y hYL (t :: Z.f :: Z.l) t 0 1 hY hpY hts (by simp) (by rw [hYm]; exact HM.out.1) (by omega) o hbo d hdY)
  have HY := hide hY
  have HPY := hide hpY
  have HT := hide ht
  have ET := hide et
  have EY := hide eY
  have HHO := hide ho
  have HHD := hide hd
  have HOBL := hide hobl
  have HTS := hide hts
  have HYX := hide hYx
  have HYM := hide hYm
  have HYF := hide hYf
  have HYL := hide hYl
  have HYN := hide hYn
  have HYLL := hide hYL
  have HYLT := hide hYlt
  have HBO := hide hbo
  clear hbt h2 ht hY hpY hYx hYm hYL hYf hYl hYn hts hYlt hlev ho hbo hd hobl hdY et eY hB v0 v1 v2 v3 v4 HO HH
  go_wp2_with fail
  refine CJ.out.mono ?_
  rintro e w4 ⟨hj1, hj2⟩
  clear CJ
  cases d with
  | true =>
    obtain ⟨rfl, b4⟩ := hj1 rfl
    clear hj2
    obtain ⟨b, rfl⟩ : ∃ b, o = some b := by
      cases o with
      | none => have := HHD.out; cases this
      | some b => exact ⟨b, rfl⟩
    have B4 := hide (bmore B3.out b4)
    have hv := HX3.out.keep b4
    have h4 := H0.out.keep B4.out
    have hbl := HOBL.out b rfl
    have hbb : b ∈ Z.f :: Z.l := by simp [hbl]
    have hsm : (Z.x b).same ⟨S, K, T, V, X⟩ = true := HHD.out
    have htb : b ≠ t := fun e => HT.out (e ▸ hbb)
    have hq := neqT w4 htb (h4.tw b hbb).tow ((HY.out.keep b4).tw t (by simp)).tow
    obtain ⟨d2, hd2⟩ : ∃ d2, (It.mk S K T V X).wins (Z.x b) = d2 := ⟨_, rfl⟩
    have HT4 := hide (take_any w4 Z (Z.f :: Z.l) b S K T V X h4 hbb d2 hd2)
    have hpa := put_abs HP.out m b w4.heap.size HHO.out hsm
    rw [hd2] at hpa
    have e1 := hide (congrArg Prod.fst hpa)
    have e2 := hide (congrArg Prod.snd hpa)
    have HBL := hide hbl
    have HSM := hide hsm
    have hpt : pt (some b) = .pointer (some ⟨b, 0, none⟩) := rfl
    rw [hpt]
    unfold Vi at hv
    simp only [Nat.zero_add] at hv
    obtain ⟨v0, v1, v2, v3, v4⟩ := hv
    clear b4 h4 hbl hbb hsm htb hd2 hpa hpt
    go_wp2_with fail
    refine HT4.out.mono ?_
    rintro e w5 ⟨rfl, hf, htr⟩
    have HE : Hid (Done w Z w5 (putW ⟨S, K, T, V, X⟩ m Z.abs).2) := by
      rw [e2.out]
      cases d2 with
      | true =>
        obtain ⟨q1, q2, q3⟩ := htr rfl
        exact done_take HP.out HBL.out HSM.out HWF.out B4.out q1 q2 q3
      | false => exact done_same H0.out HP.out (bmore B4.out (hf rfl))
    clear hf htr v0 v1 v2 v3 v4 hq
    go_wp2
    go_ret2
    exact ⟨by rw [e1.out]; rfl, HE.out⟩
  | false =>
    obtain ⟨rfl, h4, c4⟩ := hj2 rfl
    clear hj1
    have hns : ∀ s ∈ Z.l, (Z.x s).same ⟨S, K, T, V, X⟩ = false := none_same Z.l HP.out.rise (fun b hb => by
      have e := HHO.out
      rw [lev0 HP.out, hb] at e
      have := HHD.out
      rw [← e] at this
      exact this)
    have HNS := hide hns
    have hK : ∀ a ∈ t :: Z.f :: Z.l, Z.blk (Y.k a) ∨ w.heap.size ≤ Y.k a := fun a ha => by
      rcases List.mem_cons.1 ha with e | e
      · right
        rw [e, EY.out, ET.out]
        show _ ≤ up Z.k _ _ _
        rw [up_same]
        have := B1.out.size
        omega
      · left; right
        have hne : a ≠ w2.heap.size + 2 := fun e' => HT.out (by rw [ET.out, ← e']; exact e)
        refine ⟨a, e, .inr (.inl ?_)⟩
        rw [EY.out]; exact up_other _ _ _ hne
    have HK := hide hK
    have hclm := clm_zero HPY.out (by rw [HYF.out, HYL.out]; exact HT.out) (by rw [HYM.out]; exact HM.out.1) (by rw [HYX.out]; exact HWF.out) (by
      rw [HYX.out, HYL.out]
      intro s hs
      rw [HYLT.out s hs]; exact hns s hs)
    have CA := hide (addN ⟨Z.L, 1, none⟩ Z.n w4 (by rw [← HYLL.out, ← HYN.out]; exact h4.head.cell rfl) (by rw [← HYLL.out]; exact h4.head.free 1) HN.out)
    have c0 : w4.cell? ⟨Z.L, 0, none⟩ = some (pt (some Y.f)) := by rw [← HYLL.out]; exact h4.head.cell rfl
    have hq := eqT w4 t
    have h5 : Hp (w4.setCell ⟨Z.L, 1, none⟩ (.int .i64 (Z.n + 1 : Nat))) (Y.in0 t) (t :: Z.f :: Z.l) := by
      have h5 := h4.setN (Y.n + 1)
      unfold Sk.in0
      rw [HBO.out]
      rw [← HYLL.out, ← HYN.out]
      exact ⟨h5.head, fun s hs => ⟨(h5.tw s hs).tow, (h5.tw s hs).lnk, (h5.tw s hs).itm, (h5.tw s hs).hm⟩, h5.kk, h5.tgt⟩
    have hc5 : Ch (fun b => Z.blk b ∨ w.heap.size ≤ b) w (w4.setCell ⟨Z.L, 1, none⟩ (.int .i64 (Z.n + 1 : Nat))) := by
      refine (Ch.of B3.out).trans (Ch.trans (c4.mono fun i _ hi => ?_) (Ch.set _ _ _ (.inl (.inl rfl))))
      rcases hi with e | e
      · rw [e]; exact hK t (by simp)
      · rw [e]
        refine hK _ (List.mem_cons_of_mem _ ?_)
        have := ah_in (Y.lt (Y.x t)) (Y.lev 0) Y.f
        rw [lev0 HPY.out, HYF.out, HYL.out] at this
        rw [lev0 HPY.out, HYL.out, HYF.out]
        exact this
    obtain ⟨w5, hw5⟩ : ∃ w5, w5 = w4.setCell ⟨Z.L, 1, none⟩ (.int .i64 (Z.n + 1 : Nat)) := ⟨_, rfl⟩
    rw [← hw5] at CA h5 hc5
    have H5 := hide h5
    have C5 := hide hc5
    have CLM := hide hclm
    have hpt : pt (some t) = .pointer (some ⟨t, 0, none⟩) := rfl
    rw [hpt]
    clear h4 c4 hns hK hclm h5 hc5 hw5 hpt
    go_wp2_with fail
    refine CA.out.mono ?_
    rintro e w6 ⟨rfl, rfl⟩
    clear c0 hq CA
    go_wp2_with fail
    go_loopw [10] (fun s10 wr => ∃ (q : Nat) (Sx : Sk), s10 = .int .i64 (q + 2 : Nat) ∧ q + 1 ≤ m ∧ Hid (Clm Y t q Sx) ∧ Hid (Hp wr Sx (t :: Z.f :: Z.l)) ∧ Hid (Ch (fun b => Z.blk b ∨ w.heap.size ≤ b) w wr)) (fun s10 _ => m + 2 - (intOf s10).toNat)
    case atStart => exact ⟨0, Y.in0 t, rfl, HM.out.1, CLM, H5, C5⟩
    case round =>
      obtain ⟨q, Sx, rfl, hqm, hclm, hh, hc⟩ := hrel
      by_cases hlt : q + 2 ≤ m
      · have hts : ∀ s ∈ Sx.f :: Sx.l, s ∈ t :: Z.f :: Z.l := fun s hs => by
          rw [hclm.out.f, hclm.out.l, HYF.out, HYL.out] at hs
          rcases List.mem_cons.1 hs with e | e
          · simp [e]
          · rcases (ins_mem _ _ _ _).1 e with e | e
            · simp [e]
            · simp [e]
        have CJ := hide (join_at Z.L wr Sx (hclm.out.L.trans HYLL.out) (t :: Z.f :: Z.l) t (q + 1) ((q + 2 : Nat) : Int) hh.out hclm.out.pu hts (by simp) (by rw [hclm.out.m, HYM.out]; omega) (by omega) _ rfl false hclm.out.free)
        have hg : ((q + 2 : Nat) : Int) ≤ (m : Int) := by omega
        have hm6 : q + 2 ≤ 6 := by have := HM.out; omega
        go_wp2_with fail
        refine CJ.out.mono ?_
        rintro e w7 ⟨-, hj⟩
        obtain ⟨rfl, h7, c7⟩ := hj (by first | rfl | trivial)
        have H7 : Hid (Hp w7 (Sx.inj t (q + 1)) (t :: Z.f :: Z.l)) := hide ⟨h7.head, fun s hs => ⟨(h7.tw s hs).tow, (h7.tw s hs).lnk, (h7.tw s hs).itm, (h7.tw s hs).hm⟩, h7.kk, h7.tgt⟩
        have C7 := hide (hc.out.trans (c7.mono fun i _ hi => by
          rcases hi with e | e
          · rw [e, hclm.out.k]; exact HK.out t (by simp)
          · rw [e, hclm.out.k]
            refine HK.out _ (hts _ ?_)
            have hin := ah_in (Sx.lt (Sx.x t)) (Sx.lev (q + 1)) Sx.f
            rcases List.mem_cons.1 hin with e1 | e1
            · rw [e1]; simp
            · exact List.mem_cons_of_mem _ (lev_mem.1 e1).1))
        have CL7 := hide (hclm.out.up (by rw [HYM.out]; omega))
        have hpt : pt (some t) = .pointer (some ⟨t, 0, none⟩) := rfl
        rw [hpt]
        clear CJ h7 c7 hts hpt
        go_wp2_with fail
        go_roundw
        case rel => first | exact ⟨q + 1, _, by go_num, by omega, CL7, H7, C7⟩ | ((repeat apply Exists.intro); exact ⟨⟨q + 1, _, by go_num, by omega, CL7, H7, C7⟩, rfl⟩)
        case measure => simp [intOf]; omega
      · obtain rfl : m = q + 1 := by omega
        have hd := done_in HM.out B1.out (H0.out.keep B1.out) HP.out (by rw [← ET.out]; exact HT.out) HNS.out (by rw [← EY.out, ← ET.out]; exact hclm.out) (by rw [← ET.out]; exact hh.out) hc.out
        have e1 := hide hd.2
        have HE := hide hd.1
        have hg : ¬ (((q + 2 : Nat) : Int) ≤ ((q + 1 : Nat) : Int)) := by omega
        clear hd
        go_wp2
        go_ret2
        exact ⟨by rw [e1.out]; rfl, HE.out⟩

end Go.Proofs.YtjpoahnecbefaaaDoor.Clep
