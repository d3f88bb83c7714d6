/- What the statement TableBits does when called: true. No conditions but that the items lie in memory. -/
import Derived.Test.YtodhljiboakjnaaGreatQl
import Derived.Test.YtodhljiboakjnaaGreatQm
import Derived.Test.YtodhljiboakjnaaGreatZv
import Derived.Test.YtodhljiboakjnaaGreatXo
import Derived.Test.YtodhljiboakjnaaGreatXc
import Derived.Test.YtodhljiboakjnaaGreatZk
import Derived.Test.YtodhljiboakjnaaGreatZa
import Derived.BigRegion
import Derived.RegionTactic
namespace Go.Proofs.YtodhljiboakjnaaGreat.Clep
open Go.RowKit
set_option linter.unusedVariables false

theorem rm_bs {w : World} {g cap : Nat} {zs : List Int} (h : Rm w g cap zs) (L : Nat) (hL : zs.length = L) : Bs w (some ⟨g, 0, none⟩) L cap zs :=
  ⟨hL, ⟨by rw [← hL]; exact h.le, fun e => by cases e⟩, range_of h.range, fun _ => ⟨g, 0, rfl, fun i hi => by rw [Nat.zero_add]; exact h.cell i (by omega)⟩⟩
theorem rm_keep {w w' : World} {g cap : Nat} {zs : List Int} (h : Rm w g cap zs) (hb : Below w.heap.size w w') (hg : g < w.heap.size) : Rm w' g cap zs :=
  ⟨h.le, h.max, h.range, fun i hi => (hb.cell (p := ⟨g, i, none⟩) hg).trans (h.cell i hi), fun i hi => by rw [hb.cell (p := ⟨g, i, none⟩) hg]; exact h.some i hi, fun i hi => (hb.frozen (p := ⟨g, i, none⟩) hg).trans (h.free i hi)⟩
theorem flips_snoc (s : List Int) (ps : List Nat) (p : Nat) : flips s (ps ++ [p]) = flip (flips s ps) p := by unfold flips; rw [List.foldl_append]; rfl
/-- The bytes behind some turns; the three numbers. -/
structure Bu (w5 wr : World) (g cap A : Nat) (s0 : List Int) (xs : List Int) (ps : List Nat) : Prop where
  rm : Rm wr g cap (flips s0 ps)
  cells : ∀ i, i < 3 → wr.cell? ⟨A, i, none⟩ = some (.int .i64 (xs.getD i 0))
  ch : Ch (fun b => b = g) w5 wr
theorem Bu.step {w5 wr : World} {g cap A : Nat} {s0 xs : List Int} {ps : List Nat} {P : Nat} (h : Bu w5 wr g cap A s0 xs ps) (hPl : P < 8 * s0.length) (hgA : g ≠ A) :
    Bu w5 ((wr.setCell ⟨g, P / 8, none⟩ (.int .u8 (bits BinOp.xor IntKind.u8 ((flips s0 ps).getD (P / 8) 0) (2 ^ (P % 8) % 256)))).drew) g cap A s0 xs (ps ++ [P]) := by
  have hb : ByteL (flips s0 ps) := h.rm.range
  have hl : (flips s0 ps).length = s0.length := flips_len _ _
  refine ⟨?_, fun i hi => ?_, ?_⟩
  · rw [flips_snoc]
    have := h.rm.set (P / 8) (by rw [hl]; omega) (bits BinOp.xor IntKind.u8 ((flips s0 ps).getD (P / 8) 0) (2 ^ (P % 8) % 256)) (xor_range _ _)
    have e2 : (flips s0 ps).set (P / 8) (bits BinOp.xor IntKind.u8 ((flips s0 ps).getD (P / 8) 0) (2 ^ (P % 8) % 256)) = flip (flips s0 ps) P := by
      unfold flip
      rw [turn_byte _ _ (range_of hb (P / 8)) (by omega)]
    rw [e2] at this
    exact ⟨this.le, this.max, this.range, fun i hi => this.cell i hi, fun i hi => this.some i hi, fun i hi => this.free i hi⟩
  · show (wr.setCell ⟨g, P / 8, none⟩ _).cell? ⟨A, i, none⟩ = _
    rw [World.cell?_setCell_other wr ⟨g, P / 8, none⟩ ⟨A, i, none⟩ _ (by intro q; injection q with q1 q2; exact hgA q1)]
    exact h.cells i hi
  · exact (h.ch.trans (Ch.set (P := fun b => b = g) wr ⟨g, P / 8, none⟩ _ rfl)).trans (Ch.of (Below.refl _ _).drew)
theorem tok_q {l : List It} (hw : ∀ x ∈ l, x.wf) (h : l.length ≤ 2000) : TOk (qL l) := ⟨qL_rise l, qL_ok l, qL_all It.wf l hw, Nat.le_trans (qL_len l) h⟩
set_option maxRecDepth 100000 in
set_option maxHeartbeats 8000000 in
theorem tbits_walk (a0 : Option Addr) (len0 cap0 : Nat) (l : List It) (at9 x y z : Int) (w : World) (h0 : Is w a0 len0 cap0 l) (hc0 : cap0 ≤ 9223372036854775807) (hm0 : len0 ≤ 9223372036854775807) :
    Calls Tryz.prog 6 #[.slice a0 len0 cap0, .int .i64 at9, .int .i64 x, .int .i64 y, .int .i64 z] w fun e w' => e = .returned (.bool true) ∧ Below w.heap.size w w' := by
  have hll := h0.1
  by_cases hgt : 60 < len0
  · clear h0
    go_enter Tryz.func6, Tryz.ntmps6
    go_wp2_with (first | (go_at_call 9; refine (qawake_any _).mono ?_; rintro e w9 ⟨rfl, hb9⟩))
    go_ret
    exact ⟨rfl, hb9⟩
  have hle : len0 ≤ 60 := by omega
  have hRi := hide (rising_any a0 len0 cap0 l w h0 (by omega) hc0)
  have HT := hide (tok_q h0.2.2.1 (by omega))
  have HQ60 := hide (show (qL l).length ≤ 60 from Nat.le_trans (qL_len l) (by omega))
  generalize qL l = m at *
  clear h0
  go_enter Tryz.func6, Tryz.ntmps6
  go_wp2_with fail
  refine hRi.out.mono ?_
  rintro e w1 ⟨aq, cq, rfl, hIq, hcq, hb1, -⟩
  have hTb := hide (reftab_any aq m.length cq m w1 hIq HT.out hcq)
  have B1 := hide hb1
  have HRG := hide (tb_range HT.out)
  have hLb := tb_len HT.out
  have HTT := hide (isT_tb HT.out)
  have HBB := hide (fun qs h3 hq hT => tb_turned HT.out HQ60.out qs h3 hq hT)
  obtain ⟨s0, hs0⟩ : ∃ s0, tb m = s0 := ⟨_, rfl⟩
  rw [hs0] at hTb HRG hLb HTT HBB
  obtain ⟨L, hL⟩ : ∃ L, s0.length = L := ⟨_, rfl⟩
  have HL := hide hL
  rw [hL] at hLb HBB
  obtain ⟨hL1, hL2⟩ := hLb
  generalize m.length = nq at *
  obtain ⟨P0, hP0, hQ0⟩ := place_of at9 16777215 (by omega) (8 * (L : Int)) (8 * L) (by omega) (by omega)
  have hP1 : (bits BinOp.and IntKind.i64 at9 16777215).tmod (8 * (L : Int)) = (P0 : Int) := hP0
  have hand := and_mask at9 16777215 (by omega)
  have hP2 : (bits BinOp.and IntKind.i64 at9 16777215) % (8 * (L : Int)) = (P0 : Int) := by
    have hh := hP1
    rw [Int.tmod_eq_emod_of_nonneg (show 0 ≤ bits BinOp.and IntKind.i64 at9 16777215 from hand.1)] at hh
    exact hh
  clear hRi hIq hb1 hs0 hL hP0 hand
  go_wp2_with fail
  refine hTb.out.mono ?_
  rintro e w3 ⟨rfl, hb3⟩
  obtain ⟨cap, w4, hrun, hcap, hb4, hrm⟩ := rm_str w3 s0 HRG.out (by rw [HL.out]; unfold maxLen; omega)
  rw [HL.out] at hrun hcap
  have hs4 : w3.heap.size < w4.heap.size := by
    have := hrm.out.some 0 (by omega)
    obtain ⟨v, hv⟩ := Option.isSome_iff_exists.1 this
    exact World.block_lt_of_cell? w4 _ hv
  have A5 := (Below.refl _ w4).alloc (Nat.le_refl _) (Obj.cells #[.int .i64 x, .int .i64 y, .int .i64 z] 3)
  have K5 := hpS w4 (Obj.cells #[.int .i64 x, .int .i64 y, .int .i64 z] 3) w4.heap.size rfl
  obtain ⟨w5, hw5⟩ : ∃ w5, w5 = w4.alloc (Obj.cells #[.int .i64 x, .int .i64 y, .int .i64 z] 3) := ⟨_, rfl⟩
  rw [← hw5] at A5 K5
  have B5 := hide (bmore (bmore (bmore B1.out hb3) hb4.out) A5)
  have hBt : Hid (Bu w5 w5 w3.heap.size cap w4.heap.size s0 [x, y, z] []) := hide ⟨rm_keep hrm.out A5 hs4, fun i hi => by
    match i, hi with
    | 0, _ => simp [World.cell?, K5]
    | 1, _ => simp [World.cell?, K5]
    | 2, _ => simp [World.cell?, K5], Ch.of (Below.refl _ _)⟩
  obtain ⟨SS, hSS⟩ : ∃ SS, strOfNums s0 = SS := ⟨_, rfl⟩
  rw [hSS] at hrun ⊢
  have HSS := hide hSS
  have hb3s := hide (show w.heap.size ≤ w3.heap.size from (bmore B1.out hb3).size)
  clear hTb hrm hSS A5 K5 hb3 hb4
  go_wp2_with fail
  rw [← hw5]
  clear hw5
  obtain ⟨g, hg⟩ : ∃ g, w3.heap.size = g := ⟨_, rfl⟩
  obtain ⟨A, hA⟩ : ∃ A, w4.heap.size = A := ⟨_, rfl⟩
  rw [hg, hA] at hs4
  rw [hg] at hrun hb3s
  rw [hg, hA] at hBt
  rw [hg, hA]
  have hgA : g ≠ A := by omega
  clear hg hA hrun
  go_loopw [39] (fun t wr => ∃ M : Nat, M ≤ 3 ∧ t = .int .i64 M ∧ Hid (∃ qs : List Nat, qs.length ≤ M ∧ (∀ q ∈ qs, q < 8 * L) ∧ Bu w5 wr g cap A s0 [x, y, z] qs)) (fun t _ => 3 - (intOf t).toNat)
  case atStart => exact ⟨0, by omega, rfl, hide ⟨[], by simp, by simp, hBt.out⟩⟩
  case round =>
    obtain ⟨M, hM, rfl, hex⟩ := hrel
    obtain ⟨qs, hqs1, hqs2, hbt⟩ := hex.out
    by_cases hlt : M < 3
    · have hcA := hbt.cells M hlt
      obtain ⟨xx, hxx⟩ : ∃ xx, [x, y, z].getD M 0 = xx := ⟨_, rfl⟩
      rw [hxx] at hcA
      obtain ⟨h1, h2⟩ := and_mask xx 31 (by decide)
      obtain ⟨t, ht⟩ := Int.eq_ofNat_of_zero_le h1
      have ht' : bits BinOp.and IntKind.i64 xx 31 = (t : Int) := ht
      have ht31 : t ≤ 31 := by rw [ht] at h2; omega
      clear h1 h2 ht hxx
      by_cases hin : P0 + t < 8 * L
      · obtain ⟨P, hPe⟩ : ∃ P, P0 + t = P := ⟨_, rfl⟩
        have hPi : (P0 : Int) + (t : Int) = (P : Int) := by omega
        rw [hPe] at hin
        obtain ⟨ys, hys⟩ : ∃ ys, flips s0 qs = ys := ⟨_, rfl⟩
        have hyl : ys.length = L := by rw [← hys, flips_len, HL.out]
        have hrm := hbt.rm
        rw [hys] at hrm
        have hcz := hrm.cell (P / 8) (by omega)
        have hfz := hrm.free (P / 8) (by omega)
        have HN := hbt.step (P := P) (by rw [HL.out]; exact hin) hgA
        rw [hys] at HN
        have HN := hide HN
        obtain ⟨b8, hb8⟩ : ∃ b8, ys.getD (P / 8) 0 = b8 := ⟨_, rfl⟩
        rw [hb8] at hcz HN
        have hPlt : (P : Int) < 8 * (L : Int) := by omega
        have HQ : Hid ((qs ++ [P]).length ≤ M + 1 ∧ ∀ q ∈ qs ++ [P], q < 8 * L) := hide ⟨by simp; exact hqs1, fun q hq => by
          rcases List.mem_append.1 hq with e | e
          · exact hqs2 q e
          · rw [List.mem_singleton.1 e]; exact hin⟩
        clear hrm hys hyl hb8 hbt hex hqs1 hqs2 hPe
        go_wp2_with fail
        go_region
        go_wp2
        go_roundw
        case rel => exact ⟨M + 1, by omega, by go_num, hide ⟨qs ++ [P], HQ.out.1, HQ.out.2, HN.out⟩⟩
        case measure => simp [intOf]; omega
      · have hPlt : ¬ ((P0 : Int) + (t : Int) < 8 * (L : Int)) := by omega
        have HQ := hide (show ∃ qs : List Nat, qs.length ≤ M + 1 ∧ (∀ q ∈ qs, q < 8 * L) ∧ Bu w5 wr g cap A s0 [x, y, z] qs from ⟨qs, by omega, hqs2, hbt⟩)
        clear hbt hex hqs1 hqs2
        go_wp2
        go_roundw
        case rel => exact ⟨M + 1, by omega, by go_num, HQ⟩
        case measure => simp [intOf]; omega
    · obtain rfl : M = 3 := by omega
      have hrm := hide hbt.rm
      have hfl := flips_len qs s0
      rw [HL.out] at hfl
      have hyB := hide hrm.out.range
      have hB9 := hide (show Below w.heap.size w wr from Clep.Below.ch B5.out hbt.ch B5.out.size (fun i hi => by rw [hi]; exact hb3s.out))
      have hbs := hide (rm_bs hrm.out L hfl)
      have HB3 := hide (HBB.out qs hqs1 hqs2)
      obtain ⟨ys, hys⟩ : ∃ ys, flips s0 qs = ys := ⟨_, rfl⟩
      rw [hys] at hrm hfl hyB hbs HB3
      have hRd := tread_any (some ⟨g, 0, none⟩) L cap ys wr hbs.out (by omega)
      have hse := str_eq ys s0 hyB.out HRG.out
      rw [HSS.out] at hse
      obtain ⟨SY, hSY⟩ : ∃ SY, strOfNums ys = SY := ⟨_, rfl⟩
      rw [hSY] at hse
      have HCV := hide (fun W (hW : Below wr.heap.size wr W) => conv_bs (hbs.out.below hW (Nat.le_refl _)))
      rw [hSY] at HCV
      clear hbt hfl hys hSY hrm hex hqs1 hqs2
      by_cases heq : ys = s0
      · rw [decide_eq_true heq] at hse
        rw [heq, HTT.out] at hRd
        have HRd := hide hRd
        clear heq hRd
        go_wp2_with fail
        refine HRd.out.mono ?_
        rintro e w6 ⟨hb6, ⟨h9, -⟩ | ⟨-, M6, rfl, -, -⟩⟩
        · cases h9
        have hcv := HCV.out w6 hb6
        have B6 := hide (bmore hB9.out hb6)
        clear hb6 HRd
        go_wp2_with (first
          | (go_at_call 9; refine (qawake_any _).mono ?_; rintro e w8 ⟨rfl, hb8⟩))
        go_ret
        exact ⟨rfl, bmore B6.out hb8⟩
      · rw [decide_eq_false heq] at hse
        have hno : isT ys = false := by
          cases hT : isT ys with
          | false => rfl
          | true => exact absurd (HB3.out hT) heq
        rw [hno] at hRd
        have HRd := hide hRd
        clear heq hRd hno
        go_wp2_with fail
        refine HRd.out.mono ?_
        rintro e w6 ⟨hb6, ⟨-, rfl⟩ | ⟨h9, -⟩⟩
        case inr => cases h9
        have hcv := HCV.out w6 hb6
        have B6 := hide (bmore hB9.out hb6)
        clear hb6 HRd
        go_wp2_with (first
          | (go_at_call 9; refine (qawake_any _).mono ?_; rintro e w8 ⟨rfl, hb8⟩))
        go_ret
        exact ⟨rfl, bmore B6.out hb8⟩

end Go.Proofs.YtodhljiboakjnaaGreat.Clep
