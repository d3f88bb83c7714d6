/- What the statement BlockBits does when called: true. Conditions: at most 2^41 items. -/
import Derived.Test.YtcgfopkoalnjkaaZx
import Derived.Test.YtcgfopkoalnjkaaXo
import Derived.Test.YtcgfopkoalnjkaaXc
import Derived.Test.YtcgfopkoalnjkaaZk
import Derived.Test.YtcgfopkoalnjkaaZa
import Derived.Test.YtcgfopkoalnjkaaZo
import Derived.BigRegion
import Derived.RegionTactic
namespace Go.Proofs.Ytcgfopkoalnjkaa.Clep
open Go.RowKit
set_option linter.unusedVariables false

theorem rm_bs {w : World} {g cap : Nat} {zs : List Int} (h : Rm w g cap zs) (L : Nat) (hL : zs.length = L) : Bs w (some ⟨g, 0, none⟩) L cap zs :=
  ⟨hL, ⟨by rw [← hL]; exact h.le, fun e => by cases e⟩, range_of h.range, fun _ => ⟨g, 0, rfl, fun i hi => by rw [Nat.zero_add]; exact h.cell i (by omega)⟩⟩
theorem rm_keep {w w' : World} {g cap : Nat} {zs : List Int} (h : Rm w g cap zs) (hb : Below w.heap.size w w') (hg : g < w.heap.size) : Rm w' g cap zs :=
  ⟨h.le, h.max, h.range, fun i hi => (hb.cell (p := ⟨g, i, none⟩) hg).trans (h.cell i hi), fun i hi => by rw [hb.cell (p := ⟨g, i, none⟩) hg]; exact h.some i hi, fun i hi => (hb.frozen (p := ⟨g, i, none⟩) hg).trans (h.free i hi)⟩
theorem flips_snoc (s : List Int) (ps : List Nat) (p : Nat) : flips s (ps ++ [p]) = flip (flips s ps) p := by unfold flips; rw [List.foldl_append]; rfl
/-- The bytes behind M turns; the three numbers. -/
structure Bt (w5 wr : World) (g cap A : Nat) (s0 : List Int) (xs : List Int) (ps : List Nat) (M : Nat) : Prop where
  rm : Rm wr g cap (flips s0 (ps.take M))
  cells : ∀ i, i < 3 → wr.cell? ⟨A, i, none⟩ = some (.int .i64 (xs.getD i 0))
  ch : Ch (fun b => b = g) w5 wr
theorem Bt.step {w5 wr : World} {g cap A : Nat} {s0 xs : List Int} {ps : List Nat} {M P : Nat} (h : Bt w5 wr g cap A s0 xs ps M) (hP : ps[M]? = some P) (hPl : P < 8 * s0.length) (hgA : g ≠ A) :
    Bt w5 ((wr.setCell ⟨g, P / 8, none⟩ (.int .u8 (bits BinOp.xor IntKind.u8 ((flips s0 (ps.take M)).getD (P / 8) 0) (2 ^ (P % 8) % 256)))).drew) g cap A s0 xs ps (M + 1) := by
  have hb : ByteL (flips s0 (ps.take M)) := h.rm.range
  have hl : (flips s0 (ps.take M)).length = s0.length := flips_len _ _
  refine ⟨?_, fun i hi => ?_, ?_⟩
  · have e : ps.take (M + 1) = ps.take M ++ [P] := by rw [List.take_add_one, hP]; rfl
    rw [e, flips_snoc]
    have := h.rm.set (P / 8) (by rw [hl]; omega) (bits BinOp.xor IntKind.u8 ((flips s0 (ps.take M)).getD (P / 8) 0) (2 ^ (P % 8) % 256)) (xor_range _ _)
    have e2 : (flips s0 (ps.take M)).set (P / 8) (bits BinOp.xor IntKind.u8 ((flips s0 (ps.take M)).getD (P / 8) 0) (2 ^ (P % 8) % 256)) = flip (flips s0 (ps.take M)) P := by
      unfold flip
      rw [turn_byte _ _ (range_of hb (P / 8)) (by omega)]
    rw [e2] at this
    exact ⟨this.le, this.max, this.range, fun i hi => this.cell i hi, fun i hi => this.some i hi, fun i hi => this.free i hi⟩
  · show (wr.setCell ⟨g, P / 8, none⟩ _).cell? ⟨A, i, none⟩ = _
    rw [World.cell?_setCell_other wr ⟨g, P / 8, none⟩ ⟨A, i, none⟩ _ (by intro q; injection q with q1 q2; exact hgA q1)]
    exact h.cells i hi
  · exact (h.ch.trans (Ch.set (P := fun b => b = g) wr ⟨g, P / 8, none⟩ _ rfl)).trans (Ch.of (Below.refl _ _).drew)
/-- Up to three bits that are turned in a block. -/
theorem bits_block (m : List It) (hw : ∀ x ∈ m, x.wf) (hl : m.length ≤ 100) (P0 P1 P2 : Nat) (h0 : P0 < 8 * (bkb m).length) (h1 : P1 < 8 * (bkb m).length) (h2 : P2 < 8 * (bkb m).length) (hne : flips (bkb m) [P0, P1, P2] ≠ bkb m) : isB (flips (bkb m) [P0, P1, P2]) = false := by
  have hfew := (ibn_few m hl).2
  have hlen := bkb_len m
  have := fr_turned 2 (ibn m) [] [P0, P1, P2] (by omega) (by omega) (by omega) (bytel_ibn m hw hl) (by simp) (fun q hq => by
    simp only [List.mem_cons, List.not_mem_nil, or_false] at hq
    rcases hq with rfl | rfl | rfl <;> omega)
  rw [List.append_nil] at this
  rcases this with h | h
  · exact absurd h hne
  · unfold isB
    exact decide_eq_false fun e => h e.1
theorem pick3o (P0 P1 P2 : Nat) (x0 x1 x2 : Int) (Q : Nat → Int → Prop) (h0 : Q P0 x0) (h1 : Q P1 x1) (h2 : Q P2 x2) : ∀ M, M < 3 → ∃ P, [P0, P1, P2][M]? = some P ∧ Q P ([x0, x1, x2].getD M 0)
  | 0, _ => ⟨P0, rfl, h0⟩
  | 1, _ => ⟨P1, rfl, h1⟩
  | 2, _ => ⟨P2, rfl, h2⟩

set_option maxRecDepth 100000 in
set_option maxHeartbeats 8000000 in
theorem bbits_walk (a0 : Option Addr) (len0 cap0 : Nat) (l : List It) (x y z : Int) (w : World) (h0 : Is w a0 len0 cap0 l) (hc0 : cap0 ≤ 9223372036854775807) (m0 : len0 ≤ 3518437208880) :
    Calls Try.prog 5 #[.slice a0 len0 cap0, .int .i64 x, .int .i64 y, .int .i64 z] w fun e w' => e = .returned (.bool true) ∧ Below w.heap.size w w' := by
  have hll := h0.1
  have hO := hide (lone_any a0 len0 cap0 l w h0 m0 hc0)
  have HLL := hide (show l.length ≤ 3518437208880 by omega)
  have HR := hide (qL_rise l)
  have HK := hide (qL_ok l)
  have HW := hide (qL_all It.wf l h0.2.2.1)
  clear h0 hll
  go_enter Try.func5, Try.ntmps5
  go_wp2_with fail
  refine hO.out.mono ?_
  rintro e w1 ⟨v1, rfl, hb1, zz, ho1, hz1, hm1⟩
  have hq := hide (q_any v1 zz l w.heap.size w1 hb1.size ho1 (fun z hz => ⟨(hz1 z hz).1.below hb1 (Nat.le_refl _), (hz1 z hz).2⟩) hm1 HLL.out)
  have B1 := hide hb1
  clear hO ho1 hz1 hm1 hb1
  go_wp2_with fail
  refine hq.out.mono ?_
  rintro e w2 ⟨aq, cq, rfl, hIq, hcq, hb2, -⟩
  have B2 := hide (bmore B1.out hb2)
  have HIQ := hide hIq
  generalize qL l = m at *
  obtain ⟨nq, hnq⟩ : ∃ nq, m.length = nq := ⟨_, rfl⟩
  rw [hnq] at HIQ ⊢
  have HNQ := hide hnq
  have hnm : nq ≤ 9223372036854775807 := Nat.le_trans HIQ.out.2.1.1 hcq
  clear hq hb2 hIq B1 hnq
  by_cases hsm : nq = 0 ∨ 100 < nq
  · by_cases hz0 : nq = 0
    · subst hz0
      go_wp2_with (first | (go_at_call 8; refine (awake_any _).mono ?_; rintro e w9 ⟨rfl, hb9⟩))
      go_ret
      exact ⟨rfl, bmore B2.out hb9⟩
    · have hgt : 100 < nq := by omega
      have hzz : ((nq : Int) == 0) = false := by simp; omega
      go_wp2_with (first | (go_at_call 8; refine (awake_any _).mono ?_; rintro e w9 ⟨rfl, hb9⟩))
      go_ret
      exact ⟨rfl, bmore B2.out hb9⟩
  · have hn1 : 0 < nq := by omega
    have hn2 : nq ≤ 100 := by omega
    have hzz : ((nq : Int) == 0) = false := by simp; omega
    have hml : m.length ≤ 100 := by rw [HNQ.out]; exact hn2
    have hfit : fit m = true := fit_iff.2 ⟨by rw [HNQ.out]; exact hn1, hml, HR.out⟩
    have hbk := isB_bkb m [] HW.out hfit (List.all_eq_true.2 HK.out)
    rw [List.append_nil] at hbk
    have HBK := hide hbk
    have hblk := hide (block_any aq nq cq m w2 HIQ.out hn2)
    have hfew := ibn_few m hml
    have hlen := bkb_len m
    have HRG := hide (bkb_range m HW.out hml)
    have HBB := hide (fun P0 P1 P2 h0 h1 h2 hne => bits_block m HW.out hml P0 P1 P2 h0 h1 h2 hne)
    obtain ⟨s0, hs0⟩ : ∃ s0, bkb m = s0 := ⟨_, rfl⟩
    rw [hs0] at HBK hblk HRG HBB hlen
    obtain ⟨L, hL⟩ : ∃ L, s0.length = L := ⟨_, rfl⟩
    have HL := hide hL
    have hL1 : 0 < L := by omega
    have hL2 : L ≤ 4000 := by omega
    obtain ⟨P0, hP0, hQ0⟩ := place_of x 16777215 (by omega) (8 * (L : Int)) (8 * L) (by omega) (by omega)
    obtain ⟨P1, hP1, hQ1⟩ := place_of y 16777215 (by omega) (8 * (L : Int)) (8 * L) (by omega) (by omega)
    obtain ⟨P2, hP2, hQ2⟩ := place_of z 16777215 (by omega) (8 * (L : Int)) (8 * L) (by omega) (by omega)
    have HPP := hide (pick3o P0 P1 P2 x y z (fun P x => (bits BinOp.and IntKind.i64 x ((16777215 : Nat) : Int)).tmod (8 * (L : Int)) = (P : Int) ∧ P < 8 * L) ⟨hP0, hQ0⟩ ⟨hP1, hQ1⟩ ⟨hP2, hQ2⟩)
    have HB3 := hide (HBB.out P0 P1 P2 (by rw [hL]; exact hQ0) (by rw [hL]; exact hQ1) (by rw [hL]; exact hQ2))
    clear hP0 hP1 hP2 hQ0 hQ1 hQ2 hsm hml hfit hbk hfew hlen HBB hs0 hL
    go_wp2_with fail
    refine hblk.out.mono ?_
    rintro e w3 ⟨rfl, hb3⟩
    obtain ⟨cap, w4, hrun, hcap, hb4, hrm⟩ := rm_str w3 s0 HRG.out (by rw [HL.out]; unfold maxLen; omega)
    rw [HL.out] at hrun hcap
    have hs4 : w3.heap.size < w4.heap.size := by
      have := hrm.out.some 0 (by omega)
      obtain ⟨v, hv⟩ := Option.isSome_iff_exists.1 this
      exact World.block_lt_of_cell? w4 _ hv
    have A5 := (Below.refl _ w4).alloc (Nat.le_refl _) (Obj.cells #[.int .i64 x, .int .i64 y, .int .i64 z] 3)
    have K5 := hpS w4 (Obj.cells #[.int .i64 x, .int .i64 y, .int .i64 z] 3) w4.heap.size rfl
    obtain ⟨w5, hw5⟩ : ∃ w5, w5 = w4.alloc (Obj.cells #[.int .i64 x, .int .i64 y, .int .i64 z] 3) := ⟨_, rfl⟩
    rw [← hw5] at A5 K5
    have B5 := hide (bmore (bmore hb3 hb4.out) A5)
    have hBt : Hid (Bt w5 w5 w3.heap.size cap w4.heap.size s0 [x, y, z] [P0, P1, P2] 0) := hide ⟨rm_keep hrm.out A5 hs4, fun i hi => by
      match i, hi with
      | 0, _ => simp [World.cell?, K5]
      | 1, _ => simp [World.cell?, K5]
      | 2, _ => simp [World.cell?, K5], Ch.of (Below.refl _ _)⟩
    obtain ⟨SS, hSS⟩ : ∃ SS, strOfNums s0 = SS := ⟨_, rfl⟩
    rw [hSS] at hrun ⊢
    have HSS := hide hSS
    have hb3s := hide hb3.size
    clear hblk hrm hSS A5 K5 hb3 hb4
    go_wp2_with fail
    rw [← hw5]
    clear hw5
    obtain ⟨g, hg⟩ : ∃ g, w3.heap.size = g := ⟨_, rfl⟩
    obtain ⟨A, hA⟩ : ∃ A, w4.heap.size = A := ⟨_, rfl⟩
    rw [hg, hA] at hs4
    rw [hg] at hrun hb3s
    rw [hg, hA] at hBt
    rw [hg, hA]
    have hgA : g ≠ A := by omega
    clear hg hA hrun
    go_loopw [39] (fun t wr => ∃ M : Nat, M ≤ 3 ∧ t = .int .i64 M ∧ Hid (Bt w5 wr g cap A s0 [x, y, z] [P0, P1, P2] M)) (fun t _ => 3 - (intOf t).toNat)
    case atStart => exact ⟨0, by omega, rfl, hBt⟩
    case round =>
      obtain ⟨M, hM, rfl, hbt⟩ := hrel
      by_cases hlt : M < 3
      · obtain ⟨P, hPe, hPx, hPl⟩ := HPP.out M hlt
        have hcA := hbt.out.cells M hlt
        obtain ⟨xx, hxx⟩ : ∃ xx, [x, y, z].getD M 0 = xx := ⟨_, rfl⟩
        rw [hxx] at hPx hcA
        have hPx2 : (bits BinOp.and IntKind.i64 xx 16777215).tmod (8 * (L : Int)) = (P : Int) := hPx
        have hand := and_mask xx 16777215 (by omega)
        have hPx3 : (bits BinOp.and IntKind.i64 xx 16777215) % (8 * (L : Int)) = (P : Int) := by
          have hh := hPx2
          rw [Int.tmod_eq_emod_of_nonneg (show 0 ≤ bits BinOp.and IntKind.i64 xx 16777215 from hand.1)] at hh
          exact hh
        obtain ⟨ys, hys⟩ : ∃ ys, flips s0 ([P0, P1, P2].take M) = ys := ⟨_, rfl⟩
        have hyl : ys.length = L := by rw [← hys, flips_len, HL.out]
        have hrm := hbt.out.rm
        rw [hys] at hrm
        have hcz := hrm.cell (P / 8) (by omega)
        have hfz := hrm.free (P / 8) (by omega)
        have HN := hbt.out.step hPe (by rw [HL.out]; exact hPl) hgA
        rw [hys] at HN
        have HN := hide HN
        obtain ⟨b8, hb8⟩ : ∃ b8, ys.getD (P / 8) 0 = b8 := ⟨_, rfl⟩
        rw [hb8] at hcz HN
        clear hPx hPe hxx hrm hys hyl hb8 hand
        go_wp2_with fail
        go_region
        go_wp2
        go_roundw
        case rel => exact ⟨M + 1, by omega, by go_num, HN⟩
        case measure => simp [intOf]; omega
      · obtain rfl : M = 3 := by omega
        have hrm := hide hbt.out.rm
        have hfl := flips_len ([P0, P1, P2].take 3) s0
        rw [HL.out] at hfl
        have hyB := hide hrm.out.range
        have hB9 := hide (show Below w.heap.size w wr from Below.ch (bmore B2.out B5.out) hbt.out.ch (Nat.le_trans B2.out.size B5.out.size) (fun i hi => by
          rw [hi]; exact Nat.le_trans B2.out.size hb3s.out))
        have hIQ9 := hide (is_grown' (HIQ.out.below B5.out (Nat.le_refl _)) (ch_gb hbt.out.ch) (fun h9 u hu e => by
          obtain ⟨b9, o9, e9, hc9⟩ := HIQ.out.2.2.2 h9
          rw [e9] at hu; cases hu
          obtain ⟨y9, hy9⟩ : ∃ y, m[0]? = some y := ⟨_, List.getElem?_eq_getElem (by rw [HNQ.out]; exact h9)⟩
          have hlt2 := World.block_lt_of_cell? w2 _ (hc9 0 y9 hy9).1
          injection e with e
          have := hb3s.out
          simp only at hlt2 e
          omega))
        have hbs := hide (rm_bs hrm.out L hfl)
        rw [show [P0, P1, P2].take 3 = [P0, P1, P2] from rfl] at hrm hfl hyB hbs
        obtain ⟨ys, hys⟩ : ∃ ys, flips s0 [P0, P1, P2] = ys := ⟨_, rfl⟩
        rw [hys] at hrm hfl hyB hbs HB3
        have hT := hide (btake_any (some ⟨g, 0, none⟩) L cap ys 0 wr (by omega) hbs.out (by omega) ys List.drop_zero.symm)
        have hse := str_eq ys s0 hyB.out HRG.out
        rw [HSS.out] at hse
        obtain ⟨SY, hSY⟩ : ∃ SY, strOfNums ys = SY := ⟨_, rfl⟩
        rw [hSY] at hse
        have HCV := hide (fun W (hW : Below wr.heap.size wr W) => conv_bs (hbs.out.below hW (Nat.le_refl _)))
        rw [hSY] at HCV
        clear hbt hfl hys hSY hrm
        by_cases heq : ys = s0
        · rw [decide_eq_true heq] at hse
          subst heq
          go_wp2_with fail
          refine hT.out.mono ?_
          rintro e w6 ⟨hb6, ⟨h9, -⟩ | ⟨-, v6, rfl, ho6⟩⟩
          · rw [HBK.out.1] at h9; cases h9
          rw [HBK.out.2.1] at ho6
          obtain ⟨a6, c6, rfl, hc6, hI6, -⟩ := ownI_is ho6 HW.out
          rw [HNQ.out] at hI6 ⊢
          have hcv := HCV.out w6 hb6
          have hEq := hide (equal_same a6 aq nq c6 cq m w6 hnm hI6 (hIQ9.out.below hb6 (Nat.le_refl _)))
          have B6 := hide (bmore hB9.out hb6)
          generalize ((0 : Nat) : Int) + 12 + ln ys = nx at *
          clear hT ho6 hI6 hb6
          go_wp2_with (first
            | (go_at_call 15; refine hEq.out.mono ?_; rintro e w7 ⟨rfl, hb7⟩)
            | (go_at_call 8; refine (awake_any _).mono ?_; rintro e w8 ⟨rfl, hb8⟩))
          go_ret
          exact ⟨rfl, bmore (bmore B6.out hb7) hb8⟩
        · rw [decide_eq_false heq] at hse
          have hnb := hide (HB3.out heq)
          clear heq
          go_wp2_with fail
          refine hT.out.mono ?_
          rintro e w6 ⟨hb6, ⟨-, rfl⟩ | ⟨h9, -⟩⟩
          case inr => rw [hnb.out] at h9; cases h9
          have hcv := HCV.out w6 hb6
          have B6 := hide (bmore hB9.out hb6)
          clear hT hb6
          go_wp2_with (first
            | (go_at_call 8; refine (awake_any _).mono ?_; rintro e w8 ⟨rfl, hb8⟩))
          go_ret
          exact ⟨rfl, bmore B6.out hb8⟩

end Go.Proofs.Ytcgfopkoalnjkaa.Clep
