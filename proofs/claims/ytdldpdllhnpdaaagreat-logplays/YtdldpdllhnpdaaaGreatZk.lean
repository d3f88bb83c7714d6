/- What the document's own Sum, Seal and Open (package clepsydraref1) do when called: for any text. No conditions but the kinds' own bounds. -/
import Derived.Test.YtdldpdllhnpdaaaGreatZb
import Derived.Test.YtdldpdllhnpdaaaGreatZc
import Derived.Test.YtdldpdllhnpdaaaGreatZa
namespace Go.Proofs.YtdldpdllhnpdaaaGreat.Clep
open Go.RowKit
set_option linter.unusedVariables false
set_option maxRecDepth 10000

theorem u32_odd (C : Nat) (h : C < 4294967296) (h2 : C % 2 = 1) : bits BinOp.xor IntKind.u32 ((C : Int) / 2) 2197175160 = ((stp C : Nat) : Int) := by
  rw [show (2197175160 : Int) = ((2197175160 : Nat) : Int) from rfl, show (C : Int) / 2 = ((C / 2 : Nat) : Int) from by omega, u32_xor_nat _ _ (by omega) (by omega)]
  unfold stp; rw [h2, Nat.one_mul]
theorem u32_even (C : Nat) (h2 : C % 2 = 0) : (C : Int) / 2 = ((stp C : Nat) : Int) := by
  unfold stp; rw [h2, Nat.zero_mul, Nat.xor_zero]; omega
theorem str_app (a b : List Int) : strOfNums a ++ strOfNums b = strOfNums (a ++ b) := by
  apply ByteArray.ext
  simp [strOfNums]

set_option maxHeartbeats 400000 in
theorem refsum_any (s : ByteArray) (zs : List Int) (w : World) (hm : s.size ≤ 9223372036854775807) (hs : Sz s zs) (hr : ByteL zs) :
    Calls Tryz.prog 74 #[.string s] w fun e w' => e = .returned (.int .u32 (crc zs : Nat)) ∧ w' = w := by
  have hlt := cr_lt zs 4294967295 hr (by decide)
  have hcs := hide (crc_sub zs hr)
  have hz := hide (range_of hr)
  have HS := hide hs
  clear hs hr
  go_enter Tryz.func74, Tryz.ntmps74
  go_wp2
  go_loop [3, 4] (fun v i => ∃ k C : Nat, k ≤ s.size ∧ i = .int .i64 k ∧ v = .int .u32 C ∧ C < 4294967296 ∧ Hid (cr (zs.drop k) C = cr zs 4294967295)) (fun _ i => s.size - (intOf i).toNat)
  case atStart => exact ⟨0, 4294967295, by omega, rfl, rfl, by omega, hide (by simp)⟩
  case round =>
    obtain ⟨k, C, hk, rfl, rfl, hC, hT⟩ := hrel
    by_cases hlk : k < s.size
    · have hck := HS.out.2 k hlk
      have hzk := hz.out k
      have hx : Hid (bits BinOp.xor IntKind.u32 (C : Int) (zs.getD k 0) = ((C ^^^ (zs.getD k 0).toNat : Nat) : Int)) := by
        obtain ⟨Z, hZ⟩ := Int.eq_ofNat_of_zero_le hzk.1
        rw [hZ, u32_xor_nat _ _ hC (by omega)]
        exact hide rfl
      have hD : C ^^^ (zs.getD k 0).toNat < 4294967296 := Nat.xor_lt_two_pow (n := 32) hC (by omega)
      have HT := hide (show cr (zs.drop (k + 1)) (it 8 (C ^^^ (zs.getD k 0).toNat)) = cr zs 4294967295 by rw [← hT.out]; exact (cr_at zs k C (by rw [← HS.out.1]; exact hlk)).symm)
      generalize hzz : zs.getD k 0 = z at *
      generalize hDD : C ^^^ z.toNat = D at *
      clear hzz hDD
      go_wp2
      rw [hx.out]
      go_loop [3, 5] (fun v i => ∃ j E : Nat, j ≤ 8 ∧ i = .int .i64 j ∧ v = .int .u32 E ∧ E < 4294967296 ∧ Hid (it (8 - j) E = it 8 D)) (fun _ i => 8 - (intOf i).toNat)
      case atStart => exact ⟨0, D, by omega, rfl, rfl, hD, hide rfl⟩
      case round =>
        obtain ⟨j, E, hj, rfl, rfl, hE, hU⟩ := hrel
        by_cases hj8 : j < 8
        · have hl := u32_low E hE
          have hst := hide (stp_lt E hE)
          have hU' := hide (show it (8 - (j + 1)) (stp E) = it 8 D by rw [← hU.out, show 8 - j = 8 - (j + 1) + 1 from by omega, it])
          by_cases h2 : E % 2 = 1
          · have ho := hide (u32_odd E hE h2)
            rw [h2] at hl
            clear h2
            go_wp2
            go_round
            case rel => exact ⟨j + 1, stp E, by omega, by go_num, by rw [← ho.out], hst.out, hU'⟩
            case measure => simp [intOf]; omega
          · have ho := hide (u32_even E (by omega))
            rw [show E % 2 = 0 from by omega] at hl
            clear h2
            go_wp2
            go_round
            case rel => exact ⟨j + 1, stp E, by omega, by go_num, by rw [← ho.out], hst.out, hU'⟩
            case measure => simp [intOf]; omega
        · have h8 : j = 8 := by omega
          subst h8
          have hU' := hide (show E = it 8 D from hU.out)
          go_wp2
          go_round
          case rel => exact ⟨k + 1, E, by omega, by go_num, rfl, hE, hide (by rw [hU'.out]; exact HT.out)⟩
          case measure => simp [intOf]; omega
    · have h8 : k = s.size := by omega
      subst h8
      have hT' := hide (show C = cr zs 4294967295 from by have := hT.out; rwa [List.drop_eq_nil_of_le (by rw [← HS.out.1]; exact Nat.le_refl _)] at this)
      go_wp2
      go_ret
      exact ⟨by rw [hcs.out, ← hT'.out, ← not_int C hC]; rfl, rfl⟩

theorem refseal_any (s : ByteArray) (zs : List Int) (w : World) (hs : s = strOfNums zs) (hm : zs.length ≤ 70368744177664) (hr : ByteL zs) :
    Calls Tryz.prog 55 #[.string s] w fun e w' => e = .returned (.string (strOfNums (sl zs))) ∧ Below w.heap.size w w' := by
  have hsz : s.size ≤ 70368744177664 := by rw [hs, str_size]; exact hm
  have HC := hide (refsum_any s zs w (by omega) (by rw [hs]; exact sz_of zs (range_of hr)) hr)
  have hlt := crc_lt zs hr
  have HS := hide (show s ++ strOfNums (le4 (crc zs) 4) = strOfNums (sl zs) by rw [hs, str_app]; rfl)
  have hcv := hide (fun W => conv_bs (bs_newL W (le4 (crc zs) 4) (le4_range _ 4) _ (le4_arr _ hlt) 4 (le4_len _ 4) (0, 0)))
  have hc4 : (strOfNums (le4 (crc zs) 4)).size = 4 := by rw [str_size, le4_len]
  clear hs
  go_enter Tryz.func55, Tryz.ntmps55
  go_wp2_with fail
  refine HC.out.mono ?_
  rintro e w1 ⟨rfl, rfl⟩
  have hc := hcv.out w1
  generalize strOfNums (le4 (crc zs) 4) = t at *
  generalize crc zs = C at *
  clear hcv
  go_wp2
  go_ret
  exact ⟨by rw [← HS.out]; rfl, (Below.refl _ _).alloc (Nat.le_refl _) _⟩

theorem str_take (zs : List Int) (n : Nat) (h : n ≤ zs.length) : (strOfNums zs).extract 0 n = strOfNums (zs.take n) := by
  apply ByteArray.ext
  simp [strOfNums, List.map_take]
theorem sl_iff (zs : List Int) (n : Nat) (hr : ByteL zs) (hn : zs.length = n + 4) : sl (zs.take n) = zs ↔ good zs n := by
  have hd : (zs.drop n).length = 4 := by rw [List.length_drop]; omega
  constructor
  · intro h
    have hl : (zs.take n).length = n := by rw [List.length_take]; omega
    have := good_sl (zs.take n) (ByteL.take hr n)
    rwa [h, hl] at this
  · intro h
    unfold good at h
    unfold sl
    have : le4 (crc (zs.take n)) 4 = zs.drop n := nn_inj _ _ (by rw [le4_len, hd]) (le4_range _ _) (ByteL.drop hr n) (by rw [nn_le4 _ (crc_lt _ (ByteL.take hr n)), h])
    rw [this, List.take_append_drop]

end Go.Proofs.YtdldpdllhnpdaaaGreat.Clep

/- What the document's own FrameOk and Frame (package clepsydraref1) do when called: for any kind, any text. No conditions but the kinds' own bounds. -/
namespace Go.Proofs.YtdldpdllhnpdaaaGreat.Clep
open Go.RowKit
set_option linter.unusedVariables false
set_option maxRecDepth 10000

/-- What FrameOk answers. -/
def fk (k n : Int) : Int := if k < 1 ∨ 100 < k then 1 else if 60000 < n then 2 else 0
theorem refframe_any (k : Int) (s : ByteArray) (ys : List Int) (w : World) (hk : 1 ≤ k) (hk2 : k ≤ 100) (hs : s = strOfNums ys) (hn : ys.length ≤ 60000) (hr : ByteL ys) :
    Calls Tryz.prog 30 #[.int .i64 k, .string s] w fun e w' => e = .returned (.string (strOfNums (fr k ys))) ∧ Below w.heap.size w w' := by
  have hsz : s.size = ys.length := by rw [hs, str_size]
  have hr2 := hd_range k ys.length hk hk2 hn
  have hH := hide (fun W => refseal_any (strOfNums (hd k ys.length)) (hd k ys.length) W rfl (by rw [hd_len]; omega) hr2)
  have hY := hide (fun W => refseal_any s ys W hs (by omega) hr)
  have hcv := conv_bs (bs_newL w (hd k ys.length) hr2 #[Value.int IntKind.u8 k, Value.int IntKind.u8 ((ys.length : Int) / 65536), Value.int IntKind.u8 ((ys.length : Int) / 256), Value.int IntKind.u8 ((ys.length : Int) % 256)] (by simp [bv, hd]) 4 rfl (0, 0))
  have hadd : ∀ W, (Op.stringOp .add (strOfNums (sl (hd k ys.length))) (strOfNums (sl ys))).run Tryz.prog W = .ok (.string (strOfNums (fr k ys))) W := fun W => by
    unfold fr
    rw [← str_app]
    exact run_string_add_sum W _ _ (by rw [str_size, str_size, sl_len, sl_len, hd_len]; omega)
  have h1 : (strOfNums (sl (hd k ys.length))).size = 8 := by rw [str_size, sl_len, hd_len]
  have h2 : (strOfNums (sl ys)).size = ys.length + 4 := by rw [str_size, sl_len]
  have h3 : (strOfNums (hd k ys.length)).size = 4 := by rw [str_size, hd_len]
  generalize strOfNums (fr k ys) = SF at *
  generalize strOfNums (sl ys) = SY at *
  generalize strOfNums (sl (hd k ys.length)) = SH at *
  generalize strOfNums (hd k ys.length) = H at *
  clear hs hr hr2
  generalize ys.length = n at *
  go_enter Tryz.func30, Tryz.ntmps30
  go_wp2_with fail
  refine (hH.out _).mono ?_
  rintro e w1 ⟨rfl, hb1⟩
  have HB1 := hide (((Below.refl _ w).alloc (Nat.le_refl _) _).trans (hb1.mono (by simp)))
  clear hb1
  go_wp2_with fail
  refine (hY.out _).mono ?_
  rintro e w2 ⟨rfl, hb2⟩
  have HB2 := hide (HB1.out.trans (hb2.mono HB1.out.size))
  clear hb2 hcv
  go_wp2
  go_ret
  exact ⟨rfl, HB2.out⟩

end Go.Proofs.YtdldpdllhnpdaaaGreat.Clep

/- Heads of frames. No conditions. -/
namespace Go.Proofs.YtdldpdllhnpdaaaGreat.Clep
open Go.RowKit
set_option linter.unusedVariables false
set_option maxRecDepth 10000

theorem hd_kd (k : Int) (n : Nat) (r : List Int) : kd (sl (hd k n) ++ r) = k := by simp [kd, sl, hd]
theorem hd_ln (k : Int) (n : Nat) (r : List Int) (hn : n ≤ 60000) : ln (sl (hd k n) ++ r) = n := by
  simp only [ln, sl, hd, List.cons_append, List.nil_append, List.getD_cons_succ, List.getD_cons_zero]
  omega
theorem hd_he (k : Int) (n : Nat) (r : List Int) (hk : 1 ≤ k) (hk2 : k ≤ 100) (hn : n ≤ 60000) : he (sl (hd k n) ++ r) = 0 := by
  have hg : nn ((sl (hd k n)).drop 4) = crc ((sl (hd k n)).take 4) := good_sl (hd k n) (hd_range k n hk hk2 hn)
  unfold he
  rw [List.take_append_of_le_length (by rw [sl_len, hd_len]; omega), List.take_of_length_le (by rw [sl_len, hd_len]; omega), if_pos hg]
/-- A frame that is cut is torn. -/
theorem torn (k : Int) (ys : List Int) (t : Nat) (hk : 1 ≤ k) (hk2 : k ≤ 100) (hn : ys.length ≤ 60000) (ht : t < ys.length + 12) : ce ((fr k ys).take t) = 4 := by
  have hlen : ((fr k ys).take t).length = t := by rw [List.length_take, fr_len]; omega
  rcases Nat.lt_or_ge t 8 with h | h
  · unfold ce; rw [if_pos (by omega)]
  · have e : (fr k ys).take t = sl (hd k ys.length) ++ (sl ys).take (t - 8) := by
      unfold fr
      rw [List.take_append, List.take_of_length_le (by rw [sl_len, hd_len]; omega), sl_len, hd_len]
    unfold ce
    rw [if_neg (by omega), hlen, e, if_neg (by rw [hd_he _ _ _ hk hk2 hn]; simp), if_neg (by rw [hd_kd, hd_ln _ _ _ hn]; omega), if_pos (by rw [hd_ln _ _ _ hn]; omega)]


end Go.Proofs.YtdldpdllhnpdaaaGreat.Clep

/- Bits that are turned in a sealed text. No conditions but the kinds' own bounds. -/
namespace Go.Proofs.YtdldpdllhnpdaaaGreat.Clep
open Go.RowKit
set_option linter.unusedVariables false
set_option maxRecDepth 10000

/-- What the bits at the first m of the places come to. -/
def turnE (ps : List Nat) (m : Nat) : Nat := (ps.take m).foldl (fun e p => e ^^^ 2 ^ p) 0
theorem turnE_succ (ps : List Nat) (m : Nat) (h : m < ps.length) : turnE ps (m + 1) = turnE ps m ^^^ 2 ^ ps.getD m 0 := by
  unfold turnE
  rw [List.take_succ_eq_append_getElem h, List.foldl_append]
  simp [List.getD, List.getElem?_eq_getElem h]

theorem pick3 (P0 P1 P2 B : Nat) (h0 : P0 < B) (h1 : P1 < B) (h2 : P2 < B) : ∀ M, M < 3 → [P0, P1, P2].getD M 0 < B
  | 0, _ => h0
  | 1, _ => h1
  | 2, _ => h2
/-- How it stands behind m turns. -/
def BitSt (w : World) (g c1 L g2 c2 A : Nat) (s0 : List Int) (ps : List Nat) (m : Nat) (wr : World) : Prop :=
  (∃ ys, Own wr w.heap.size (.slice (some ⟨g, 0, none⟩) L c1) ys ∧ ys.length = L ∧ ByteL ys ∧ nn ys = nn s0 ^^^ turnE ps m) ∧ Bs wr (some ⟨g2, 0, none⟩) L c2 s0 ∧
    (∀ i, i < 3 → wr.cell? ⟨A, i, none⟩ = some (.int .i64 (ps.getD i 0 : Nat))) ∧ Below w.heap.size w wr

theorem turn_byte (z : Int) (r : Nat) (hz : 0 ≤ z ∧ z < 256) (hr : r < 8) : bits BinOp.xor IntKind.u8 z (2 ^ r % 256) = ((z.toNat ^^^ 2 ^ r : Nat) : Int) := by
  obtain ⟨Z, rfl⟩ := Int.eq_ofNat_of_zero_le hz.1
  have h2 : (2 : Nat) ^ r < 2 ^ 8 := Nat.pow_lt_pow_right (by omega) (by omega)
  have e : (2 : Int) ^ r = ((2 ^ r : Nat) : Int) := by push_cast; rfl
  rw [e]
  generalize (2 : Nat) ^ r = T at *
  rw [show (T : Int) % 256 = (T : Int) from by omega, u8_xor_nat _ _ (by omega) (by omega)]
  rfl
theorem bv_flip (ys : List Int) (P : Nat) (hyb : ByteL ys) : (bv ys).set (P / 8) (.int .u8 (bits BinOp.xor IntKind.u8 (ys.getD (P / 8) 0) (2 ^ (P % 8) % 256))) = bv (flip ys P) := by
  rw [turn_byte _ _ (range_of hyb (P / 8)) (by omega)]
  unfold flip bv
  rw [List.map_set]

theorem bitst_step {w wr : World} {g c1 L g2 c2 A : Nat} {s0 : List Int} {ps : List Nat} {M : Nat} {ys : List Int} (hown : wr.ownsRow w.heap.size 5 1 (.slice (some ⟨g, 0, none⟩) L c1) L (bv ys)) (hyl : ys.length = L) (hyb : ByteL ys)
    (hyn : nn ys = nn s0 ^^^ turnE ps M) (htt : Bs wr (some ⟨g2, 0, none⟩) L c2 s0) (hat : ∀ i, i < 3 → wr.cell? ⟨A, i, none⟩ = some (.int .i64 (ps.getD i 0 : Nat))) (hbel : Below w.heap.size w wr)
    (hM : M < ps.length) (P : Nat) (hP : P = ps.getD M 0) (hPl : P < 8 * L) (hgA : g ≠ A) (hgg : g ≠ g2) :
    BitSt w g c1 L g2 c2 A s0 ps (M + 1) ((wr.setCell ⟨g, P / 8, none⟩ (.int .u8 (bits BinOp.xor IntKind.u8 (ys.getD (P / 8) 0) (2 ^ (P % 8) % 256)))).drew) := by
  obtain ⟨h1, h2⟩ := hown.stored (P / 8) (.int .u8 (bits BinOp.xor IntKind.u8 (ys.getD (P / 8) 0) (2 ^ (P % 8) % 256)))
  rw [bv_flip ys P hyb] at h1
  refine ⟨⟨flip ys P, ?_, by rw [flip_len, hyl], flip_range ys P hyb, ?_⟩, ?_, ?_, ?_⟩
  · unfold Own
    rw [flip_len, hyl]
    exact h1.drew
  · rw [nn_flip ys P hyb (by rw [hyl]; exact hPl), hyn, turnE_succ ps M hM, ← hP, Nat.xor_assoc]
  · refine ⟨htt.1, htt.2.1, htt.2.2.1, fun h0 => ?_⟩
    obtain ⟨b, off, ho, hc⟩ := htt.2.2.2 h0
    refine ⟨b, off, ho, fun i hi => ?_⟩
    cases ho
    exact h2.cell (hc i hi) (by intro h; cases h; exact hgg rfl)
  · intro i hi
    exact h2.cell (hat i hi) (by intro h; cases h; exact hgA rfl)
  · exact (hbel.grown h2 hbel.size (fun k hk => by cases hk; exact (World.ownsRow.lt hown g rfl).1)).drew

/-- Up to three bits that were turned are found, or nothing was turned. -/
theorem bits_final (zs ys : List Int) (n : Nat) (hz : ByteL zs) (hn : zs.length = n) (hyl : ys.length = n + 4) (hyb : ByteL ys) (P0 P1 P2 N : Nat) (hN : N < 3) (h0 : P0 < 8 * (n + 4)) (h1 : P1 < 8 * (n + 4)) (h2 : P2 < 8 * (n + 4)) (hm : n ≤ 4088)
    (hyn : nn ys = nn (sl zs) ^^^ turnE [P0, P1, P2] (N + 1)) : ys = sl zs ∨ (ys ≠ sl zs ∧ ¬ good ys n) := by
  subst hn
  have hgt := good_turn (sl zs) ys zs.length _ (sl_range zs hz) hyb (sl_len zs) hyl (good_sl zs hz) hyn
  have key : turnE [P0, P1, P2] (N + 1) = 0 ∨ it (8 * (zs.length + 4)) (turnE [P0, P1, P2] (N + 1)) ≠ 0 := by
    match N, hN with
    | 0, _ =>
      right
      have := bit_found _ P0 h0
      simpa [turnE] using this
    | 1, _ =>
      by_cases he : P0 = P1
      · left; subst he; simp [turnE]
      · right
        have := two_found _ P0 P1 h0 h1 (by omega) he
        simpa [turnE] using this
    | 2, _ =>
      right
      have := three_found _ P0 P1 P2 h0 h1 h2
      simpa [turnE] using this
  rcases key with k | k
  · left
    rw [k, Nat.xor_zero] at hyn
    exact nn_inj _ _ (by rw [hyl, sl_len]) hyb (sl_range zs hz) hyn
  · right
    refine ⟨fun e => ?_, fun g => k (hgt.1 g)⟩
    rw [e] at hyn
    have h3 := congrArg (nn (sl zs) ^^^ ·) hyn
    simp only [← Nat.xor_assoc, Nat.xor_self, Nat.zero_xor] at h3
    exact k (by rw [← h3, it_zero])

end Go.Proofs.YtdldpdllhnpdaaaGreat.Clep

/- Frames in one of which up to three bits are turned: what is told of them. -/
namespace Go.Proofs.YtdldpdllhnpdaaaGreat.Clep
open Go.RowKit
set_option linter.unusedVariables false
set_option maxRecDepth 10000

def flips (s : List Int) (qs : List Nat) : List Int := qs.foldl flip s
theorem flips_len : ∀ (qs : List Nat) (s : List Int), (flips s qs).length = s.length
  | [], s => rfl
  | q :: qs, s => by show (flips (flip s q) qs).length = _; rw [flips_len qs, flip_len]
theorem flips_range : ∀ (qs : List Nat) (s : List Int), ByteL s → ByteL (flips s qs)
  | [], s, h => h
  | q :: qs, s, h => flips_range qs (flip s q) (flip_range s q h)
theorem getD_left (A B : List Int) (i : Nat) (h : i < A.length) : (A ++ B).getD i 0 = A.getD i 0 := by simp [List.getD, List.getElem?_append_left h]
theorem getD_right (A B : List Int) (i : Nat) : (A ++ B).getD (A.length + i) 0 = B.getD i 0 := by simp [List.getD, List.getElem?_append_right (Nat.le_add_right _ _)]
theorem flip_left (A B : List Int) (q : Nat) (h : q < 8 * A.length) : flip (A ++ B) q = flip A q ++ B := by
  have h8 : q / 8 < A.length := by omega
  unfold flip
  rw [List.set_append, if_pos h8, getD_left A B _ h8]
theorem flip_right (A B : List Int) (q : Nat) : flip (A ++ B) (8 * A.length + q) = A ++ flip B q := by
  unfold flip
  rw [show (8 * A.length + q) / 8 = A.length + q / 8 from by omega, show (8 * A.length + q) % 8 = q % 8 from by omega, List.set_append, if_neg (by omega), getD_right, show A.length + q / 8 - A.length = q / 8 from by omega]
theorem flips_right (A B : List Int) : ∀ (qs : List Nat), flips (A ++ B) (qs.map (8 * A.length + ·)) = A ++ flips B qs := by
  intro qs
  induction qs generalizing B with
  | nil => rfl
  | cons q qs ih => show flips (flip (A ++ B) (8 * A.length + q)) _ = _; rw [flip_right, ih]; rfl
/-- Turned in a text of two parts: turned in the parts. -/
theorem flips_parts : ∀ (qs : List Nat) (A B : List Int) (n : Nat), (∀ q ∈ qs, q < 8 * (A.length + B.length)) → qs.length ≤ n →
    ∃ us bs, flips (A ++ B) qs = flips A us ++ flips B bs ∧ us.length ≤ n ∧ bs.length ≤ n ∧ (∀ a ∈ us, a < 8 * A.length) ∧ (∀ b ∈ bs, b < 8 * B.length)
  | [], A, B, n, _, _ => ⟨[], [], rfl, Nat.zero_le _, Nat.zero_le _, by simp, by simp⟩
  | q :: qs, A, B, n, hq, hn => by
    have hq0 := hq q (List.mem_cons_self)
    simp only [List.length_cons] at hn
    rcases Nat.lt_or_ge q (8 * A.length) with h | h
    · obtain ⟨us, bs, h1, h2, h3, h4, h5⟩ := flips_parts qs (flip A q) B (n - 1) (fun x hx => by rw [flip_len]; exact hq x (List.mem_cons_of_mem _ hx)) (by omega)
      refine ⟨q :: us, bs, ?_, by simp only [List.length_cons]; omega, by omega, fun a ha => ?_, h5⟩
      · show flips (flip (A ++ B) q) qs = flips (flip A q) us ++ _
        rw [flip_left A B q h, h1]
      · rcases List.mem_cons.1 ha with rfl | ha
        · exact h
        · have := h4 a ha; rwa [flip_len] at this
    · obtain ⟨us, bs, h1, h2, h3, h4, h5⟩ := flips_parts qs A (flip B (q - 8 * A.length)) (n - 1) (fun x hx => by rw [flip_len]; exact hq x (List.mem_cons_of_mem _ hx)) (by omega)
      refine ⟨us, (q - 8 * A.length) :: bs, ?_, by omega, by simp only [List.length_cons]; omega, h4, fun b hb => ?_⟩
      · show flips (flip (A ++ B) q) qs = _ ++ flips (flip B (q - 8 * A.length)) bs
        rw [show q = 8 * A.length + (q - 8 * A.length) from by omega, flip_right, show 8 * A.length + (q - 8 * A.length) - 8 * A.length = q - 8 * A.length from by omega, h1]
      · rcases List.mem_cons.1 hb with rfl | hb
        · omega
        · have := h5 b hb; rwa [flip_len] at this
/-- Up to three bits turned in a sealed text are found. -/
theorem flips_found (zs : List Int) (hz : ByteL zs) (hm : zs.length ≤ 4088) (qs : List Nat) (hq : qs.length ≤ 3) (hb : ∀ q ∈ qs, q < 8 * (zs.length + 4)) : flips (sl zs) qs = sl zs ∨ ¬ good (flips (sl zs) qs) zs.length := by
  have hr := sl_range zs hz
  have hl := sl_len zs
  have hfl : (flips (sl zs) qs).length = zs.length + 4 := by rw [flips_len, hl]
  have hfr := flips_range qs _ hr
  match qs, hq, hb, hfl, hfr with
  | [], _, _, _, _ => exact .inl rfl
  | [a], _, hb, hfl, hfr =>
    have ha := hb a (by simp)
    have e : nn (flips (sl zs) [a]) = nn (sl zs) ^^^ turnE [a, a, a] (0 + 1) := by
      show nn (flip (sl zs) a) = _; rw [nn_flip _ _ hr (by rw [hl]; omega)]; simp [turnE]
    rcases bits_final zs _ zs.length hz rfl hfl hfr a a a 0 (by omega) ha ha ha hm e with h | ⟨_, h⟩
    · exact .inl h
    · exact .inr h
  | [a, b], _, hb, hfl, hfr =>
    have ha := hb a (by simp)
    have hb' := hb b (by simp)
    have e : nn (flips (sl zs) [a, b]) = nn (sl zs) ^^^ turnE [a, b, b] (1 + 1) := by
      show nn (flip (flip (sl zs) a) b) = _
      rw [nn_flip _ _ (flip_range _ _ hr) (by rw [flip_len, hl]; omega), nn_flip _ _ hr (by rw [hl]; omega)]; simp [turnE, Nat.xor_assoc]
    rcases bits_final zs _ zs.length hz rfl hfl hfr a b b 1 (by omega) ha hb' hb' hm e with h | ⟨_, h⟩
    · exact .inl h
    · exact .inr h
  | [a, b, c], _, hb, hfl, hfr =>
    have ha := hb a (by simp)
    have hb' := hb b (by simp)
    have hc := hb c (by simp)
    have e : nn (flips (sl zs) [a, b, c]) = nn (sl zs) ^^^ turnE [a, b, c] (2 + 1) := by
      show nn (flip (flip (flip (sl zs) a) b) c) = _
      rw [nn_flip _ _ (flip_range _ _ (flip_range _ _ hr)) (by rw [flip_len, flip_len, hl]; omega), nn_flip _ _ (flip_range _ _ hr) (by rw [flip_len, hl]; omega), nn_flip _ _ hr (by rw [hl]; omega)]; simp [turnE, Nat.xor_assoc]
    rcases bits_final zs _ zs.length hz rfl hfl hfr a b c 2 (by omega) ha hb' hc hm e with h | ⟨_, h⟩
    · exact .inl h
    · exact .inr h
  | _ :: _ :: _ :: _ :: _, hq, _, _, _ => simp only [List.length_cons] at hq; omega

/-- A frame in which up to three bits are turned is refused, or is us it was. -/
theorem fr_turned (k : Int) (ys r : List Int) (qs : List Nat) (hk : 1 ≤ k) (hk2 : k ≤ 100) (hn : ys.length ≤ 4088) (hy : ByteL ys) (hq : qs.length ≤ 3) (hb : ∀ q ∈ qs, q < 8 * (ys.length + 12)) :
    flips (fr k ys) qs = fr k ys ∨ ce (flips (fr k ys) qs ++ r) ≠ 0 := by
  have hhr := hd_range k ys.length hk hk2 (by omega)
  have hl1 : (sl (hd k ys.length)).length = 8 := by rw [sl_len, hd_len]
  have hl2 : (sl ys).length = ys.length + 4 := sl_len ys
  obtain ⟨us, bs, e, ha, hb1, ha2, hb2⟩ := flips_parts qs (sl (hd k ys.length)) (sl ys) 3 (fun q h => by rw [hl1, hl2]; have := hb q h; omega) hq
  rw [hl1] at ha2
  rw [hl2] at hb2
  unfold fr
  rw [e]
  have lA : (flips (sl (hd k ys.length)) us).length = 8 := by rw [flips_len, hl1]
  have lB : (flips (sl ys) bs).length = ys.length + 4 := by rw [flips_len, hl2]
  rcases flips_found (hd k ys.length) hhr (by rw [hd_len]; omega) us ha (fun q h => by have := ha2 q h; rw [hd_len]; omega) with h1 | h1
  · rw [h1]
    rcases flips_found ys hy hn bs hb1 (fun q h => hb2 q h) with h2 | h2
    · rw [h2]; exact .inl rfl
    · right
      rw [List.append_assoc]
      have hln := hd_ln k ys.length (flips (sl ys) bs ++ r) (by omega)
      have hbd : bd (sl (hd k ys.length) ++ (flips (sl ys) bs ++ r)) = flips (sl ys) bs := by
        unfold bd
        rw [hln, Int.toNat_natCast, ← List.append_assoc, List.take_append_of_le_length (by rw [List.length_append, hl1, lB]; omega), List.take_of_length_le (by rw [List.length_append, hl1, lB]; omega), List.drop_append_of_le_length (by omega), List.drop_eq_nil_of_le (by omega), List.nil_append]
      have hbe : be (sl (hd k ys.length) ++ (flips (sl ys) bs ++ r)) = 5 := by
        unfold be; rw [hbd, hln, Int.toNat_natCast, if_neg (show ¬ nn ((flips (sl ys) bs).drop ys.length) = crc ((flips (sl ys) bs).take ys.length) from h2)]
      unfold ce
      rw [if_neg (by rw [List.length_append, hl1]; omega), if_neg (by rw [hd_he _ _ _ hk hk2 (by omega)]; simp), if_neg (by rw [hd_kd, hln]; omega), if_neg (by rw [hln, List.length_append, List.length_append, hl1, lB]; omega), hbe]
      decide
  · right
    have hhe : he (flips (sl (hd k ys.length)) us ++ flips (sl ys) bs ++ r) = 5 := by
      unfold he
      rw [List.append_assoc, List.take_append_of_le_length (by omega), List.take_of_length_le (by omega), if_neg (show ¬ nn ((flips (sl (hd k ys.length)) us).drop 4) = crc ((flips (sl (hd k ys.length)) us).take 4) from h1)]
    unfold ce
    rw [if_neg (by rw [List.length_append, List.length_append, lA]; omega), hhe, if_pos (by decide)]
    decide

end Go.Proofs.YtdldpdllhnpdaaaGreat.Clep
