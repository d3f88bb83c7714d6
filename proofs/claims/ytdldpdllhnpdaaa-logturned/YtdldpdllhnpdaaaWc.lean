/- LogTurned, walked: it answers true. For any batches, any one of them, any three places. -/
import Derived.Test.YtdldpdllhnpdaaaLc
import Derived.Test.YtdldpdllhnpdaaaLd
import Derived.Test.YtdldpdllhnpdaaaLe
import Derived.Test.YtdldpdllhnpdaaaZr
import Derived.Test.YtdldpdllhnpdaaaZa
import Derived.BigRegion
import Derived.RegionTactic
namespace Go.Proofs.Ytdldpdllhnpdaaa.Clep
open Go.RowKit Go.Maps
set_option linter.unusedVariables false
set_option maxRecDepth 10000

theorem rm_bs {w : World} {g cap : Nat} {zs : List Int} (h : Rm w g cap zs) (L : Nat) (hL : zs.length = L) : Bs w (some ⟨g, 0, none⟩) L cap zs :=
  ⟨hL, ⟨by rw [← hL]; exact h.le, fun e => by cases e⟩, range_of h.range, fun _ => ⟨g, 0, rfl, fun i hi => by rw [Nat.zero_add]; exact h.cell i (by omega)⟩⟩
theorem rm_keep {w w' : World} {g cap : Nat} {zs : List Int} (h : Rm w g cap zs) (hb : Below w.heap.size w w') (hg : g < w.heap.size) : Rm w' g cap zs :=
  ⟨h.le, h.max, h.range, fun i hi => (hb.cell (p := ⟨g, i, none⟩) hg).trans (h.cell i hi), fun i hi => by rw [hb.cell (p := ⟨g, i, none⟩) hg]; exact h.some i hi, fun i hi => (hb.frozen (p := ⟨g, i, none⟩) hg).trans (h.free i hi)⟩
theorem flips_snoc (s : List Int) (ps : List Nat) (p : Nat) : flips s (ps ++ [p]) = flip (flips s ps) p := by unfold flips; rw [List.foldl_append]; rfl
/-- The bytes behind t turns, and the three numbers. -/
structure Tt (w1 wr : World) (g cap A : Nat) (s0 : List Int) (xs : List Int) (ps : List Nat) (M : Nat) : Prop where
  rm : Rm wr g cap (flips s0 (ps.take M))
  cells : ∀ i, i < 3 → wr.cell? ⟨A, i, none⟩ = some (.int .i64 (xs.getD i 0))
  bel : Below g w1 wr
theorem Tt.step {w1 wr : World} {g cap A : Nat} {s0 xs : List Int} {ps : List Nat} {M P : Nat} (h : Tt w1 wr g cap A s0 xs ps M) (hP : ps[M]? = some P) (hPl : P < 8 * s0.length) (hgA : g ≠ A) :
    Tt w1 ((wr.setCell ⟨g, P / 8, none⟩ (.int .u8 (bits BinOp.xor IntKind.u8 ((flips s0 (ps.take M)).getD (P / 8) 0) (2 ^ (P % 8) % 256)))).drew) g cap A s0 xs ps (M + 1) := by
  have hb : ByteL (flips s0 (ps.take M)) := h.rm.range
  have hl : (flips s0 (ps.take M)).length = s0.length := flips_len _ _
  refine ⟨?_, fun i hi => ?_, (h.bel.setCell (Nat.le_refl _) _).drew⟩
  · have e : ps.take (M + 1) = ps.take M ++ [P] := by rw [List.take_add_one, hP]; rfl
    rw [e, flips_snoc]
    have := h.rm.set (P / 8) (by rw [hl]; omega) (bits BinOp.xor IntKind.u8 ((flips s0 (ps.take M)).getD (P / 8) 0) (2 ^ (P % 8) % 256)) (xor_range _ _)
    have e2 : (flips s0 (ps.take M)).set (P / 8) (bits BinOp.xor IntKind.u8 ((flips s0 (ps.take M)).getD (P / 8) 0) (2 ^ (P % 8) % 256)) = flip (flips s0 (ps.take M)) P := by
      unfold flip
      rw [turn_byte _ _ (range_of hb (P / 8)) (by omega)]
    rw [e2] at this
    exact ⟨this.le, this.max, this.range, fun i hi => this.cell i hi, fun i hi => this.some i hi, fun i hi => this.free i hi⟩
  · show (wr.setCell ⟨g, P / 8, none⟩ _).cell? ⟨A, i, none⟩ = _
    rw [World.cell?_setCell_other wr ⟨g, P / 8, none⟩ ⟨A, i, none⟩ _ (by intro q; injection q with q1 q2; exact hgA q1)]
    exact h.cells i hi
theorem mem_flat {ls : List (List It)} {l : List It} (h : l ∈ ls) : l.length ≤ ls.flatten.length := by
  induction ls with
  | nil => cases h
  | cons x r ih =>
    simp only [List.flatten_cons, List.length_append]
    rcases List.mem_cons.1 h with rfl | h
    · omega
    · have := ih h; omega
theorem pick3t (P0 P1 P2 : Nat) (x0 x1 x2 : Int) (Q : Nat → Int → Prop) (h0 : Q P0 x0) (h1 : Q P1 x1) (h2 : Q P2 x2) : ∀ M, M < 3 → ∃ P, [P0, P1, P2][M]? = some P ∧ Q P ([x0, x1, x2].getD M 0)
  | 0, _ => ⟨P0, rfl, h0⟩
  | 1, _ => ⟨P1, rfl, h1⟩
  | 2, _ => ⟨P2, rfl, h2⟩

set_option maxRecDepth 8000 in
set_option maxHeartbeats 4000000 in
theorem turned_walk (a : Option Addr) (n c : Nat) (zs : List Sl) (x xi xj xk : Int) (w : World) (h : Rws w a n c zs) (hn : n ≤ 9223372036854775807) :
    Calls Try.prog 7 #[.slice a n c, .int .i64 x, .int .i64 xi, .int .i64 xj, .int .i64 xk] w fun e w' => e = .returned (.bool true) ∧ Below w.heap.size w w' := by
  have C := hide (few_any a n c zs w h hn)
  have HF := hide (fun e => few_ok h e)
  have HT := hide (fun h15 hs => text_any a n c zs w h h15 hs)
  have HG := hide (gl_good zs (rws_wf h))
  have hlz := hide h.1
  clear h
  generalize fewB n zs = O at *
  go_enter Try.func7, Try.ntmps7
  go_wp2_with fail
  refine C.out.mono ?_
  rintro e w0 ⟨rfl, rfl⟩
  clear C
  cases O with
  | false =>
    have AW := hide (lawake_any w0)
    go_wp2_with fail
    refine AW.out.mono ?_
    rintro e w1 ⟨rfl, hb⟩
    have HB := hide hb
    clear hb AW
    go_wp2
    go_ret
    exact ⟨rfl, HB.out⟩
  | true =>
    obtain ⟨h15, hs150⟩ := HF.out rfl
    have TX := hide (HT.out h15 hs150)
    have hLB := gl_bytes zs (by rw [hlz.out]; exact h15) hs150
    have hGs : (gl zs).length ≤ 15 := Nat.le_trans (gl_size zs).1 (by rw [hlz.out]; exact h15)
    have hFl : (gl zs).flatten.length ≤ 150 := Nat.le_trans (gl_size zs).2 hs150
    clear HF HT
    go_wp2_with fail
    refine TX.out.mono ?_
    rintro e w1 ⟨gv, eb, ec, ys, rfl, hor, -, hym, hcl, hec, hb1⟩
    have HB1 := hide hb1
    have HCL := hide hcl
    have HOR := hide hor
    have HYM := hide hym
    clear hor hym hcl hb1 TX hlz
    generalize hgs : gl zs = gs at *
    clear hgs
    obtain ⟨G, hG⟩ : ∃ G, gs.length = G := ⟨_, rfl⟩
    have HGL := hide hG
    obtain ⟨ga, gc, rfl, hrws, hgc⟩ := HOR.out.rws
    have hyl : ys.length = G := by
      have := congrArg List.length HYM.out
      rw [List.length_map] at this
      rw [this, hG]
    rw [hyl] at hrws ⊢
    have HRW := hide hrws
    have hGc := hrws.2.1.1
    rw [hG] at hGs hec HCL ⊢
    clear hrws HOR hyl hG
    by_cases hG0 : G = 0
    · subst hG0
      have AW := hide (lawake_any w1)
      go_wp2_with fail
      refine AW.out.mono ?_
      rintro e w2 ⟨rfl, hb⟩
      have HB := hide (bmore HB1.out hb)
      clear hb AW
      go_wp2
      go_ret
      exact ⟨rfl, HB.out⟩
    · have hG0' : ¬ ((G : Int) = 0) := by omega
      have hsz : (strOfNums (lg gs)).size = (lg gs).length := str_size _
      have HLR := hide (lg_range gs HG.out)
      obtain ⟨EM, hEM⟩ : ∃ EM, (lg gs).length = EM := ⟨_, rfl⟩
      have HEM := hide hEM
      rw [hEM] at hsz hLB
      obtain ⟨M, hM, hMl⟩ := place_of x 255 (by decide) (G : Int) G rfl (by omega)
      rw [show (((255 : Nat) : Int)) = 255 from rfl] at hM
      obtain ⟨l, hl⟩ : ∃ l, gs[M]? = some l := ⟨_, List.getElem?_eq_getElem (by rw [HGL.out]; exact hMl)⟩
      have hlm := List.mem_of_getElem? hl
      have HTU := hide (fun qs h1 h2 => rp_turned gs HG.out M l hl (Nat.le_trans (mem_flat hlm) hFl) qs h1 h2)
      have HALL := hide (rp_all gs HG.out)
      rw [hEM] at HALL
      have hes := en_succ gs M l hl
      have hE1 := en_le gs (M + 1)
      have c0 := HCL.out M (by omega)
      have c1 := HCL.out (M + 1) (by omega)
      have hgl : eb < w1.heap.size := World.block_lt_of_cell? w1 _ c0
      obtain ⟨D, hD⟩ : ∃ D, (bt l).length = D := ⟨_, rfl⟩
      rw [hD] at hes HTU
      rw [hEM] at hE1
      have hD1 : 12 ≤ D := by rw [← hD, bt_len]; omega
      generalize hEN0 : en gs M = E0 at *
      generalize hEN1 : en gs (M + 1) = E1 at *
      clear hEN0 hEN1 hD hl hlm hEM HG
      have hDi : (E1 : Int) - (E0 : Int) = (D : Int) := by omega
      have hE0b : E0 ≤ 6000 := by omega
      have hE1b : E1 ≤ 6000 := by omega
      have hMD : E0 + D ≤ EM := by omega
      generalize hSS : strOfNums (lg gs) = SS at *
      have HSS := hide hSS
      clear hes hSS
      go_wp2_with fail
      go_region
      have hb12 : Below w1.heap.size w1 w1.drew := (Below.refl _ _).drew
      have HB12 := hide hb12
      have hs12 : w1.heap.size ≤ w1.drew.heap.size := hb12.size
      clear hb12 c0 c1
      generalize w1.drew = w2 at *
      obtain ⟨cp, w3, hrun, hcap, hB3, hrm⟩ := rm_str w2 (lg gs) HLR.out (by rw [HEM.out]; unfold maxLen; omega)
      rw [HEM.out, HSS.out] at hrun
      rw [HEM.out] at hcap
      have hs3 : w2.heap.size < w3.heap.size := by
        have := hrm.out.some 0 (by omega)
        obtain ⟨v, hv⟩ := Option.isSome_iff_exists.1 this
        exact World.block_lt_of_cell? w3 _ hv
      obtain ⟨Q0, hQ0, hQl0⟩ := place_of xi 16777215 (by decide) (8 * (D : Int)) (8 * D) (by omega) (by omega)
      obtain ⟨Q1, hQ1, hQl1⟩ := place_of xj 16777215 (by decide) (8 * (D : Int)) (8 * D) (by omega) (by omega)
      obtain ⟨Q2, hQ2, hQl2⟩ := place_of xk 16777215 (by decide) (8 * (D : Int)) (8 * D) (by omega) (by omega)
      rw [show (((16777215 : Nat) : Int)) = 16777215 from rfl] at hQ0 hQ1 hQ2
      have HPP := hide (pick3t (8 * E0 + Q0) (8 * E0 + Q1) (8 * E0 + Q2) xi xj xk (fun P x => ∃ Q : Nat, (bits BinOp.and IntKind.i64 x 16777215).tmod (8 * (D : Int)) = (Q : Int) ∧ Q < 8 * D ∧ P = 8 * E0 + Q) ⟨Q0, hQ0, hQl0, rfl⟩ ⟨Q1, hQ1, hQl1, rfl⟩ ⟨Q2, hQ2, hQl2, rfl⟩)
      have bA := (Below.refl _ w3).alloc (Nat.le_refl _) (Obj.cells #[Value.int IntKind.i64 xi, Value.int IntKind.i64 xj, Value.int IntKind.i64 xk] 3)
      have hst : Hid (Tt w2 (w3.alloc (Obj.cells #[Value.int IntKind.i64 xi, Value.int IntKind.i64 xj, Value.int IntKind.i64 xk] 3)) w2.heap.size cp w3.heap.size (lg gs) [xi, xj, xk] [8 * E0 + Q0, 8 * E0 + Q1, 8 * E0 + Q2] 0) := hide
        ⟨rm_keep hrm.out bA hs3, fun i hi => by
          match i, hi with
          | 0, _ => simp [go_sem]
          | 1, _ => simp [go_sem]
          | 2, _ => simp [go_sem], hB3.out.trans (bA.mono (by omega))⟩
      clear hQ0 hQ1 hQ2 hrm bA hB3
      go_wp2_with fail
      generalize w3.alloc (Obj.cells #[Value.int IntKind.i64 xi, Value.int IntKind.i64 xj, Value.int IntKind.i64 xk] 3) = w4 at *
      generalize hga : w3.heap.size = A at *
      clear hga hrun
      generalize hgg : w2.heap.size = g at *
      go_loopw [66] (fun q wr => ∃ t : Nat, q = .int .i64 t ∧ t ≤ 3 ∧ Hid (Tt w2 wr g cp A (lg gs) [xi, xj, xk] [8 * E0 + Q0, 8 * E0 + Q1, 8 * E0 + Q2] t)) (fun q _ => 3 - (intOf q).toNat)
      case atStart => exact ⟨0, rfl, by omega, hst⟩
      case round =>
        obtain ⟨t, rfl, ht, hS⟩ := hrel
        by_cases hlt : t < 3
        · obtain ⟨P, hPg, Q, hQX, hQl, hPQ⟩ := HPP.out t hlt
          have hcX := hS.out.cells t hlt
          have hPl : P < 8 * EM := by omega
          have hPi : 8 * (E0 : Int) + (Q : Int) = (P : Int) := by omega
          have hfl := flips_len ([8 * E0 + Q0, 8 * E0 + Q1, 8 * E0 + Q2].take t) (lg gs)
          have hcz := hS.out.rm.cell (P / 8) (by rw [hfl, HEM.out]; omega)
          have hfz := hS.out.rm.free (P / 8) (by omega)
          have hzr := range_of hS.out.rm.range (P / 8)
          have HN := hide (hS.out.step hPg (by rw [HEM.out]; exact hPl) (by omega))
          generalize (flips (lg gs) (List.take t [8 * E0 + Q0, 8 * E0 + Q1, 8 * E0 + Q2])).getD (P / 8) 0 = z at *
          generalize [xi, xj, xk].getD t 0 = X at *
          clear hfl hPg hPQ hst
          go_wp2_with fail
          go_region
          go_wp2
          go_roundw
          case rel => exact ⟨t + 1, by go_num, by omega, HN⟩
          case measure => simp [intOf]; omega
        · have h3 : t = 3 := by omega
          subst h3
          have hTl : List.take 3 [8 * E0 + Q0, 8 * E0 + Q1, 8 * E0 + Q2] = [8 * E0 + Q0, 8 * E0 + Q1, 8 * E0 + Q2] := rfl
          have hrmE := hS.out.rm
          have hbl := hS.out.bel
          rw [hTl] at hrmE
          have hTT := HTU.out [Q0, Q1, Q2] (by simp) (fun q hq => by
            simp only [List.mem_cons, List.not_mem_nil, or_false] at hq
            rcases hq with rfl | rfl | rfl <;> assumption)
          rw [show List.map (fun q => 8 * E0 + q) [Q0, Q1, Q2] = [8 * E0 + Q0, 8 * E0 + Q1, 8 * E0 + Q2] from rfl] at hTT
          have hlen : (flips (lg gs) [8 * E0 + Q0, 8 * E0 + Q1, 8 * E0 + Q2]).length = EM := by rw [flips_len, HEM.out]
          have hbr : ByteL (flips (lg gs) [8 * E0 + Q0, 8 * E0 + Q1, 8 * E0 + Q2]) := flips_range _ _ HLR.out
          have hse := str_eq _ _ hbr HLR.out
          rw [HSS.out] at hse
          generalize flips (lg gs) [8 * E0 + Q0, 8 * E0 + Q1, 8 * E0 + Q2] = bs at *
          have hBS := rm_bs hrmE EM hlen
          have HBS := hide hBS
          have HBL := hide (show Below w1.heap.size w1 wr from HB12.out.trans (hbl.mono hs12))
          have RP := hide (replay_any (some ⟨g, 0, none⟩) EM cp bs wr (by omega) hBS)
          clear hrmE hbl hBS hTl hS hst hlen hbr
          by_cases hsame : bs = lg gs
          · subst hsame
            rw [decide_eq_true rfl] at hse
            clear hTT
            go_wp2_with fail
            refine RP.out.mono ?_
            rintro e w5 ⟨v5, ys5, rfl, hor5, hym5, hb5, -⟩
            rw [HALL.out] at hym5 ⊢
            replace hym5 : ys5.map Sl.l = gs := hym5
            have hcv5 := conv_bs (HBS.out.below hb5 (Nat.le_refl _))
            rw [HSS.out] at hcv5
            have hB15 := HBL.out.trans (hb5.mono HBL.out.size)
            obtain ⟨a5, c5, rfl, hrw5, hcm5⟩ := hor5.rws
            have SM := hide (lsame_any a5 ga ys5.length c5 G gc ys5 ys w5 hrw5 (HRW.out.below hB15 (Nat.le_refl _)) (Nat.le_trans hrw5.2.1.1 hcm5) (by omega))
            rw [show eqLL (ys5.map Sl.l) (ys.map Sl.l) = true by rw [hym5, HYM.out]; exact eqLL_refl _] at SM
            have HB5 := hide (HB1.out.trans (hB15.mono HB1.out.size))
            clear hb5 RP hor5 hrw5 hB15 hym5
            go_wp2_with fail
            refine SM.out.mono ?_
            rintro e w6 ⟨rfl, hb6⟩
            have HB6 := hide (bmore HB5.out hb6)
            have AW := hide (lawake_any w6)
            clear hb6 SM hcv5
            go_wp2_with fail
            refine AW.out.mono ?_
            rintro e w7 ⟨rfl, hb7⟩
            have HB7 := hide (bmore HB6.out hb7)
            clear hb7 AW
            go_wp2
            go_ret
            exact ⟨rfl, HB7.out⟩
          · have hRP := hTT.resolve_left hsame
            rw [decide_eq_false hsame] at hse
            clear hTT hsame
            go_wp2_with fail
            refine RP.out.mono ?_
            rintro e w5 ⟨v5, ys5, rfl, hor5, hym5, hb5, -⟩
            rw [hRP] at hym5 ⊢
            obtain rfl : ys5 = [] := List.map_eq_nil_iff.1 hym5
            have hcv5 := conv_bs (HBS.out.below hb5 (Nat.le_refl _))
            have hB15 := HBL.out.trans (hb5.mono HBL.out.size)
            obtain ⟨a5, c5, rfl, -, -⟩ := hor5.rws
            have HB5 := hide (HB1.out.trans (hB15.mono HB1.out.size))
            have AW := hide (lawake_any w5)
            generalize strOfNums bs = SB at *
            clear hb5 RP hor5 hB15 hym5 hRP
            go_wp2_with fail
            refine AW.out.mono ?_
            rintro e w7 ⟨rfl, hb7⟩
            have HB7 := hide (bmore HB5.out hb7)
            clear hb7 AW
            go_wp2
            go_ret
            exact ⟨rfl, HB7.out⟩

end Go.Proofs.Ytdldpdllhnpdaaa.Clep
