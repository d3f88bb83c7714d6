/- What the document's own Replay does when called (a walk over the translated program): for any text of at most a million bytes. -/
import Derived.Test.YtdldpdllhnpdaabLb
import Derived.Test.YtdldpdllhnpdaabZo
import Derived.Test.YtdldpdllhnpdaabZq
namespace Go.Proofs.Ytdldpdllhnpdaab.Clep
open Go.RowKit
set_option linter.unusedVariables false
set_option maxRecDepth 10000

set_option maxHeartbeats 2000000 in
theorem rreplay_any (zs : List Int) (w : World) (hm : zs.length ≤ 1000000) (hr : ByteL zs) :
    Calls Try.prog 10 #[.string (strOfNums zs)] w (AnsP zs w) := by
  have hsz := str_size zs
  have HR := hide hr
  have HB1 := hide (rp_bad1 zs)
  have HB2 := hide (rp_bad2 zs)
  have HSP := hide (rp_split zs)
  obtain ⟨len, hlen⟩ : ∃ len, zs.length = len := ⟨_, rfl⟩
  have HLN := hide hlen
  rw [hlen] at hsz hm
  clear hlen hr
  go_enter Try.func10, Try.ntmps10
  go_wp2_with fail
  go_loopw [5, 6] (fun v p wr => ∃ j P : Nat, P ≤ len ∧ p = .int .i64 P ∧ Hid (j ≤ P ∧ At zs j P) ∧ Hid (Below w.heap.size w wr) ∧ Hid (((SP zs).1.take j).all gb = true) ∧ Hid (∃ ys : List Sl, Ors wr w.heap.size v ys ∧ ys.map Sl.l = ((SP zs).1.take j).map gi ∧ Nw w.heap.size ys)) (fun _ p _ => len - (intOf p).toNat)
  case atStart => exact ⟨0, 0, by omega, rfl, hide ⟨Nat.le_refl _, At.start zs⟩, hide (Below.refl _ _), hide (by simp), hide ⟨[], ors_nil _ _, by simp, nw_nil _⟩⟩
  case round =>
    obtain ⟨j, P, hP, rfl, hat, hbel, hall, hys⟩ := hrel
    by_cases hlt : P < len
    · have U := hide (unframe_any zs P wr (by rw [HLN.out]; exact hm) HR.out (by rw [HLN.out]; exact hP))
      have HUN := hide (show un (zs.drop P) P = if ce (zs.drop P) = 0 then .tuple #[.int .i64 (kd (zs.drop P)), .string (strOfNums (bo (zs.drop P))), .int .i64 (P + 12 + ln (zs.drop P)), .int .i64 0] else .tuple #[.int .i64 0, .string ⟨#[]⟩, .int .i64 0, .int .i64 (ce (zs.drop P))] from rfl)
      have hst := hide (fun hc => hat.out.2.stop (by rw [HLN.out]; exact hlt) hc)
      have hgo := hide (fun hc => hat.out.2.step hc)
      have hok := hide (fun hc => ce_ok (zs.drop P) hc)
      have hrl := ln_range (zs.drop P) (range_of (ByteL.drop HR.out P))
      by_cases hc : ce (zs.drop P) = 0
      · rw [if_pos hc] at HUN
        rw [HUN.out] at U
        have hg := hgo.out hc
        have hk := hok.out hc
        rw [List.length_drop, HLN.out] at hk
        have hjl := hg.2.1
        have hel := hg.2.2
        have HST := hide hg.1
        have HB3 := hide (HB2.out j hjl)
        have hT1 := hide (take_gi _ j hjl)
        have hT2 := hide (take_gb _ j hjl hall.out)
        rw [hel] at HB3 hT1 hT2
        have hbr : ByteL (bo (zs.drop P)) := ByteL.take (ByteL.drop (ByteL.take (ByteL.drop HR.out P) _) _) _
        have hbl := bo_len _ hc
        clear hst hgo hok hg hel hc HUN HB1 HB2
        generalize bo (zs.drop P) = Y at *
        generalize kd (zs.drop P) = K at *
        generalize ln (zs.drop P) = L at *
        obtain ⟨N, rfl⟩ := Int.eq_ofNat_of_zero_le hrl.1
        simp only [Int.toNat_natCast] at hk hbl HST
        have HBR := hide hbr
        have HBL := hide hbl
        have hPN : P + (N + 12) ≤ len := by omega
        clear hbr hbl hrl hk
        have RD := hide (fun W => refread_any (strOfNums Y) Y.length Y W (str_size Y) (by rw [HBL.out]; omega) (sz_of Y (range_of HBR.out)) HBR.out)
        have HGB := hide (show gb (K, Y) = (K == 1 && ((rd Y).2 == 0 && !((rd Y).1.length == 0))) from rfl)
        have HGI := hide (show gi (K, Y) = (rd Y).1 from rfl)
        have HWF := hide (rd_wf Y HBR.out)
        rw [HGI.out] at hT1
        go_wp2_with fail
        refine U.out.mono ?_
        rintro e w1 ⟨rfl, hb1⟩
        have B1 := hide (bmore hbel.out hb1)
        have HYS := hide (show ∃ ys : List Sl, Ors w1 w.heap.size u5 ys ∧ ys.map Sl.l = ((SP zs).1.take j).map gi ∧ Nw w.heap.size ys from by
          obtain ⟨ys, h1, h2⟩ := hys.out
          exact ⟨ys, h1.keep hb1, h2⟩)
        clear hb1 U hys
        by_cases hK : K = 1
        · subst hK
          go_wp2_with fail
          refine (RD.out w1).mono ?_
          rintro e w2 ⟨v, rfl, ho, hb2⟩
          obtain ⟨a2, c2, rfl, hc2, hi2, hab⟩ := ownI_is ho HWF.out
          have hL2m : (rd Y).1.length ≤ 9223372036854775807 := Nat.le_trans hi2.2.1.1 hc2
          have HI2 := hide hi2
          obtain ⟨ys, hor, hym, hnw⟩ := HYS.out
          have HNW := hide (show Nw w.heap.size (ys ++ [⟨a2, (rd Y).1.length, c2, (rd Y).1⟩]) from hnw.snoc (fun h0 x hx => by have h2 := hab x hx; have := B1.out.size; omega))
          have HAP := hide (show 0 < (rd Y).1.length → ∀ x, a2 = some x → u5.ownBlock ≠ some x.block from fun h0 x hx e => by
            have h1 := (World.ownsRow.lt hor.own _ e).2
            have h2 := hab x hx
            omega)
          have hyl : Hid (ys.length ≤ 1000000) := hide (by
            have := congrArg List.length hym
            rw [List.length_map, List.length_map, List.length_take] at this
            have := hat.out.1
            omega)
          have HOR := hide (hor.keep hb2)
          have HYM := hide hym
          have B2 := hide (bmore B1.out hb2)
          have HI3 := hide (show ∀ L2, (rd Y).1.length = L2 → Is w2 a2 L2 c2 (rd Y).1 from fun L2 e => by subst e; exact HI2.out)
          clear hor hym hnw hi2 hab ho hb2 HYS RD HI2
          generalize hLL : (rd Y).1.length = L2 at *
          generalize (rd Y).2 = E at *
          have HI4 := hide (HI3.out L2 rfl)
          clear HI3
          by_cases hE : E = 0
          · subst hE
            by_cases h0 : L2 = 0
            · have hgf : gb (1, Y) = false := by rw [HGB.out, h0]; simp
              have HRR := hide (ansP_bad (w := w) (w' := w2) (HB3.out hgf) B2.out)
              subst h0
              clear hgf
              go_wp2
              refine bodyPost_ret (by simp [results, Try.results10, go_sem]) rfl HRR.out
            · have hgt : gb (1, Y) = true := by rw [HGB.out]; simp [h0]
              have HT := hide (hT2.out hgt)
              have h0' : ¬ ((L2 : Int) = 0) := by omega
              clear hgt
              go_wp2_with (first
                | (at_builtin; refine wpList_append_row rfl (.tmp 45) (.tmp 47) rfl w.heap.size u5 ys rfl HOR.out ⟨a2, L2, c2, (rd Y).1⟩ rfl rfl HI4.out hL2m HAP.out hyl.out B2.out.size ?_)
                | fail)
              intro v' w' ho' _ hb' _
              have HR2 := hide (show ∃ ys : List Sl, Ors w' w.heap.size v' ys ∧ ys.map Sl.l = ((SP zs).1.take (j + 1)).map gi ∧ Nw w.heap.size ys from ⟨_, ho', by rw [List.map_append, HYM.out, hT1.out]; rfl, HNW.out⟩)
              have HBW := hide (B2.out.trans hb')
              clear ho' hb'
              go_wp2
              go_roundw
              case rel => exact ⟨j + 1, P + (N + 12), hPN, by rw [show (P : Int) + 12 + (N : Int) = ((P + (N + 12) : Nat) : Int) from by omega], hide ⟨by have := hat.out.1; omega, HST.out⟩, HBW, HT, HR2⟩
              case measure => simp [intOf]; omega
          · have hgf : gb (1, Y) = false := by rw [HGB.out]; simp [hE]
            have HRR := hide (ansP_bad (w := w) (w' := w2) (HB3.out hgf) B2.out)
            clear hgf
            go_wp2
            refine bodyPost_ret (by simp [results, Try.results10, go_sem]) rfl HRR.out
        · have hgf : gb (K, Y) = false := by rw [HGB.out]; simp [hK]
          have HRR := hide (ansP_bad (w := w) (w' := w1) (HB3.out hgf) B1.out)
          clear hgf
          go_wp2
          refine bodyPost_ret (by simp [results, Try.results10, go_sem]) rfl HRR.out
      · rw [if_neg hc] at HUN
        rw [HUN.out] at U
        have hs := hst.out hc
        have hbad := hide (HB1.out)
        rw [hs.2.2] at hbad
        by_cases hc4 : ce (zs.drop P) = 4
        · have hF : (SP zs).1.take j = (SP zs).1 := List.take_of_length_le (by omega)
          have hR := HSP.out (.inr (by rw [hs.2.2]; exact hc4)) (by rw [← hF]; exact hall.out)
          rw [hs.2.1] at hR
          rw [hc4] at U
          have HRR := hide (show ∀ W, Below wr.heap.size wr W → AnsP zs w (.returned (.tuple #[u5, .int .i64 (P : Nat), .int .i64 0])) W from fun W hW => by
            obtain ⟨ys, hor, hym, hnw⟩ := hys.out
            exact ⟨u5, ys, by rw [hR], hor.keep hW, by rw [hym, hF, hR], bmore hbel.out hW, hnw⟩)
          clear hst hgo hok hrl HUN hs hR hF hc hc4 hbad
          go_wp2_with fail
          refine U.out.mono ?_
          rintro e w1 ⟨rfl, hb1⟩
          have HR3 := hide (HRR.out _ hb1)
          clear hb1 HRR U
          go_wp2
          refine bodyPost_ret (by simp [results, Try.results10, go_sem]) rfl HR3.out
        · have HRR := hide (show ∀ W, Below wr.heap.size wr W → AnsP zs w (.returned (.tuple #[.slice none 0 0, .int .i64 0, .int .i64 9])) W from fun W hW => ansP_bad (hbad.out (fun h => by rcases h with h | h; exact hc h; exact hc4 h)) (bmore hbel.out hW))
          clear hst hgo hok hrl HUN hs hbad
          generalize ce (zs.drop P) = E at *
          go_wp2_with fail
          refine U.out.mono ?_
          rintro e w1 ⟨rfl, hb1⟩
          have HR3 := hide (HRR.out _ hb1)
          clear hb1 HRR U
          go_wp2
          refine bodyPost_ret (by simp [results, Try.results10, go_sem]) rfl HR3.out
    · have hPl : P = zs.length := by rw [HLN.out]; omega
      have he := hat.out.2.end hPl
      have hF : (SP zs).1.take j = (SP zs).1 := List.take_of_length_le (by omega)
      have hR := HSP.out (.inl he.2.2) (by rw [← hF]; exact hall.out)
      rw [he.2.1] at hR
      have HRR := hide (show AnsP zs w (.returned (.tuple #[u5, .int .i64 (P : Nat), .int .i64 0])) wr from by
        obtain ⟨ys, hor, hym, hnw⟩ := hys.out
        exact ⟨u5, ys, by rw [hR], hor, by rw [hym, hF, hR], hbel.out, hnw⟩)
      clear hR hF he hPl
      go_wp2
      refine bodyPost_ret (by simp [results, Try.results10, go_sem]) rfl HRR.out

end Go.Proofs.Ytdldpdllhnpdaab.Clep
