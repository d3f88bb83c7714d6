/- SumBits, walked: it answers true. For any text, any three places. -/
import Derived.Test.YtfcakghegdaeoaaAwakeB
import Derived.Test.YtfcakghegdaeoaaAppend
import Derived.BigRegion
namespace Go.Proofs.Ytfcakghegdaeoaa.Clep
open Go.RowKit
set_option linter.unusedVariables false

theorem and_mask (a : Int) (m : Nat) (hm : m < 9223372036854775808) : 0 ≤ bits .and .i64 a (m : Int) ∧ bits .and .i64 a (m : Int) ≤ m := by
  have e : bits .and .i64 a (m : Int) = IntKind.i64.wrap ((BitVec.ofInt 64 a &&& BitVec.ofInt 64 (m : Int)).toNat : Int) := rfl
  have hle : (BitVec.ofInt 64 a &&& BitVec.ofInt 64 (m : Int)).toNat ≤ m := by
    rw [BitVec.toNat_and]
    refine Nat.le_trans Nat.and_le_right ?_
    rw [BitVec.toNat_ofInt]
    omega
  rw [e]
  generalize (BitVec.ofInt 64 a &&& BitVec.ofInt 64 (m : Int)).toNat = k at *
  simp [IntKind.wrap, IntKind.bits, IntKind.signed]
  omega
/-- A place within a row: what is masked, and what is left of it. -/
theorem place_of (a : Int) (m : Nat) (hm : m < 9223372036854775808) (d : Int) (D : Nat) (hd : d = (D : Int)) (h0 : 0 < D) : ∃ P : Nat, (bits .and .i64 a (m : Int)).tmod d = (P : Int) ∧ P < D := by
  obtain ⟨h1, h2⟩ := and_mask a m hm
  obtain ⟨x, hx⟩ := Int.eq_ofNat_of_zero_le h1
  rw [hx, hd]
  exact ⟨x % D, by rw [Int.ofNat_tmod], Nat.mod_lt _ h0⟩

/-- What the bits at the first m of the places come to. -/
def turnE (ps : List Nat) (m : Nat) : Nat := (ps.take m).foldl (fun e p => e ^^^ 2 ^ p) 0
theorem turnE_succ (ps : List Nat) (m : Nat) (h : m < ps.length) : turnE ps (m + 1) = turnE ps m ^^^ 2 ^ ps.getD m 0 := by
  unfold turnE
  rw [List.take_succ_eq_append_getElem h, List.foldl_append]
  simp [List.getD, List.getElem?_eq_getElem h]

theorem pick3 (P0 P1 P2 B : Nat) (h0 : P0 < B) (h1 : P1 < B) (h2 : P2 < B) : ∀ M, M < 3 → [P0, P1, P2].getD M 0 < B
  | 0, _ => h0
  | 1, _ => h1
  | 2, _ => h2
/-- How it stands behind m turns. -/
def BitSt (w : World) (g c1 L g2 c2 A : Nat) (s0 : List Int) (ps : List Nat) (m : Nat) (wr : World) : Prop :=
  (∃ ys, Own wr w.heap.size (.slice (some ⟨g, 0, none⟩) L c1) ys ∧ ys.length = L ∧ ByteL ys ∧ nn ys = nn s0 ^^^ turnE ps m) ∧ Bs wr (some ⟨g2, 0, none⟩) L c2 s0 ∧
    (∀ i, i < 3 → wr.cell? ⟨A, i, none⟩ = some (.int .i64 (ps.getD i 0 : Nat))) ∧ Below w.heap.size w wr

theorem own_keep {w w' : World} {B : Nat} {v : Value} {zs : List Int} (h : Own w B v zs) (hb : Below w.heap.size w w') : Own w' B v zs := by
  obtain ⟨hl, ⟨rfl, hn⟩ | ⟨g, cap, cur, rfl, hg, hh, hnc, hcm, hcs, hx⟩⟩ := h
  · exact ⟨hl, .inl ⟨rfl, hn⟩⟩
  · refine ⟨hl, .inr ⟨g, cap, cur, rfl, hg, ?_, hnc, hcm, hcs, hx⟩⟩
    rw [hb.block g (Array.getElem?_eq_some_iff.1 hh).1]
    exact hh

theorem turn_byte (z : Int) (r : Nat) (hz : 0 ≤ z ∧ z < 256) (hr : r < 8) : bits BinOp.xor IntKind.u8 z (2 ^ r % 256) = ((z.toNat ^^^ 2 ^ r : Nat) : Int) := by
  obtain ⟨Z, rfl⟩ := Int.eq_ofNat_of_zero_le hz.1
  have h2 : (2 : Nat) ^ r < 2 ^ 8 := Nat.pow_lt_pow_right (by omega) (by omega)
  have e : (2 : Int) ^ r = ((2 ^ r : Nat) : Int) := by push_cast; rfl
  rw [e]
  generalize (2 : Nat) ^ r = T at *
  rw [show (T : Int) % 256 = (T : Int) from by omega, u8_xor_nat _ _ (by omega) (by omega)]
  rfl
theorem bv_flip (ys : List Int) (P : Nat) (hyb : ByteL ys) : (bv ys).set (P / 8) (.int .u8 (bits BinOp.xor IntKind.u8 (ys.getD (P / 8) 0) (2 ^ (P % 8) % 256))) = bv (flip ys P) := by
  rw [turn_byte _ _ (range_of hyb (P / 8)) (by omega)]
  unfold flip bv
  rw [List.map_set]

theorem bitst_step {w wr : World} {g c1 L g2 c2 A : Nat} {s0 : List Int} {ps : List Nat} {M : Nat} {ys : List Int} (hown : wr.ownsRow w.heap.size 5 1 (.slice (some ⟨g, 0, none⟩) L c1) L (bv ys)) (hyl : ys.length = L) (hyb : ByteL ys)
    (hyn : nn ys = nn s0 ^^^ turnE ps M) (htt : Bs wr (some ⟨g2, 0, none⟩) L c2 s0) (hat : ∀ i, i < 3 → wr.cell? ⟨A, i, none⟩ = some (.int .i64 (ps.getD i 0 : Nat))) (hbel : Below w.heap.size w wr)
    (hM : M < ps.length) (P : Nat) (hP : P = ps.getD M 0) (hPl : P < 8 * L) (hgA : g ≠ A) (hgg : g ≠ g2) :
    BitSt w g c1 L g2 c2 A s0 ps (M + 1) ((wr.setCell ⟨g, P / 8, none⟩ (.int .u8 (bits BinOp.xor IntKind.u8 (ys.getD (P / 8) 0) (2 ^ (P % 8) % 256)))).drew) := by
  obtain ⟨h1, h2⟩ := hown.stored (P / 8) (.int .u8 (bits BinOp.xor IntKind.u8 (ys.getD (P / 8) 0) (2 ^ (P % 8) % 256)))
  rw [bv_flip ys P hyb] at h1
  refine ⟨⟨flip ys P, ?_, by rw [flip_len, hyl], flip_range ys P hyb, ?_⟩, ?_, ?_, ?_⟩
  · unfold Own
    rw [flip_len, hyl]
    exact h1.drew
  · rw [nn_flip ys P hyb (by rw [hyl]; exact hPl), hyn, turnE_succ ps M hM, ← hP, Nat.xor_assoc]
  · refine ⟨htt.1, htt.2.1, htt.2.2.1, fun h0 => ?_⟩
    obtain ⟨b, off, ho, hc⟩ := htt.2.2.2 h0
    refine ⟨b, off, ho, fun i hi => ?_⟩
    cases ho
    exact h2.cell (hc i hi) (by intro h; cases h; exact hgg rfl)
  · intro i hi
    exact h2.cell (hat i hi) (by intro h; cases h; exact hgA rfl)
  · exact (hbel.grown h2 hbel.size (fun k hk => by cases hk; exact (World.ownsRow.lt hown g rfl).1)).drew

/-- Up to three bits that were turned are found, or nothing was turned. -/
theorem bits_final (zs ys : List Int) (n : Nat) (hz : ByteL zs) (hn : zs.length = n) (hyl : ys.length = n + 4) (hyb : ByteL ys) (P0 P1 P2 N : Nat) (hN : N < 3) (h0 : P0 < 8 * (n + 4)) (h1 : P1 < 8 * (n + 4)) (h2 : P2 < 8 * (n + 4)) (hm : n ≤ 4088)
    (hyn : nn ys = nn (sl zs) ^^^ turnE [P0, P1, P2] (N + 1)) : ys = sl zs ∨ (ys ≠ sl zs ∧ ¬ good ys n) := by
  subst hn
  have hgt := good_turn (sl zs) ys zs.length _ (sl_range zs hz) hyb (sl_len zs) hyl (good_sl zs hz) hyn
  have key : turnE [P0, P1, P2] (N + 1) = 0 ∨ it (8 * (zs.length + 4)) (turnE [P0, P1, P2] (N + 1)) ≠ 0 := by
    match N, hN with
    | 0, _ =>
      right
      have := bit_found _ P0 h0
      simpa [turnE] using this
    | 1, _ =>
      by_cases he : P0 = P1
      · left; subst he; simp [turnE]
      · right
        have := two_found _ P0 P1 h0 h1 (by omega) he
        simpa [turnE] using this
    | 2, _ =>
      right
      have := three_found _ P0 P1 P2 h0 h1 h2
      simpa [turnE] using this
  rcases key with k | k
  · left
    rw [k, Nat.xor_zero] at hyn
    exact nn_inj _ _ (by rw [hyl, sl_len]) hyb (sl_range zs hz) hyn
  · right
    refine ⟨fun e => ?_, fun g => k (hgt.1 g)⟩
    rw [e] at hyn
    have h3 := congrArg (nn (sl zs) ^^^ ·) hyn
    simp only [← Nat.xor_assoc, Nat.xor_self, Nat.zero_xor] at h3
    exact k (by rw [← h3, it_zero])

set_option maxHeartbeats 800000 in
theorem bits_core (a0 : Option Addr) (len cap : Nat) (zs : List Int) (i j k n : Int) (w : World) (hl : len ≤ 4088) (h : Bs w a0 len cap zs) :
    Calls Try.prog 4 #[.slice a0 len cap, .int .i64 i, .int .i64 j, .int .i64 k, .int .i64 n] w fun e w' => e = .returned (.bool true) ∧ Below w.heap.size w w' := by
  have H := hide h
  have hzl := hide h.1
  have hzr : Hid (ByteL zs) := hide (bs_range h)
  have hsl : Hid ((sl zs).length = len + 4) := hide (by rw [sl_len, h.1])
  obtain ⟨P0, hP0, hQ0⟩ := place_of i 16777215 (by omega) (8 * ((len : Int) + 4)) (8 * (len + 4)) (by omega) (by omega)
  obtain ⟨P1, hP1, hQ1⟩ := place_of j 16777215 (by omega) (8 * ((len : Int) + 4)) (8 * (len + 4)) (by omega) (by omega)
  obtain ⟨P2, hP2, hQ2⟩ := place_of k 16777215 (by omega) (8 * ((len : Int) + 4)) (8 * (len + 4)) (by omega) (by omega)
  obtain ⟨N, hN, hN3⟩ := place_of n 255 (by omega) 3 3 rfl (by omega)
  have hN : (bits BinOp.and IntKind.i64 n 255).tmod 3 = (N : Int) := hN
  have HP0 := hide hP0
  have HP1 := hide hP1
  have HP2 := hide hP2
  clear h hP0 hP1 hP2
  go_enter Try.func4, Try.ntmps4
  go_wp2_with fail
  refine (seal_any a0 len cap zs w (by omega) H.out).mono ?_
  rintro e w1 ⟨v1, rfl, ho1, hb1⟩
  obtain ⟨g, c1, rfl, hc1, hc1', hbs1⟩ := own_at ho1 (sl_range zs hzr.out) (len + 4) hsl.out (by omega)
  have HB1 := hide hb1
  have K1 := hide hbs1
  have O1 := hide ho1
  clear hb1 hbs1 ho1
  go_wp2_with (first
    | (at_builtin; refine wpList_append_bytes rfl _ _ rfl w1.heap.size _ [] rfl (own_lit w1 [] w1.heap.size (Nat.le_refl _) _ rfl 0 rfl (by omega)) _ (len + 4) c1 (sl zs) rfl ?b1 ?b2 ?b3 ?_)
    | fail)
  case b1 => exact K1.out.below ((Below.refl _ w1).alloc (Nat.le_refl _) _) (Nat.le_refl _)
  case b2 => simp; omega
  case b3 => simp
  intro v2 w2 ho2 hb2
  have HB2 := hide (((Below.refl w1.heap.size w1).alloc (Nat.le_refl _) _).trans hb2)
  have hs2 := hide HB2.out.size
  obtain ⟨g2, c2, rfl, hc2, hc2', hbs2⟩ := own_at ho2 (sl_range zs hzr.out) (len + 4) hsl.out (by omega)
  clear hb2
  go_wp2_with fail
  go_region
  rw [show (bits BinOp.and IntKind.i64 i 16777215).tmod (8 * (↑len + 4)) = (P0 : Int) from HP0.out, show (bits BinOp.and IntKind.i64 j 16777215).tmod (8 * (↑len + 4)) = (P1 : Int) from HP1.out,
    show (bits BinOp.and IntKind.i64 k 16777215).tmod (8 * (↑len + 4)) = (P2 : Int) from HP2.out]
  have hst : Hid (BitSt w g c1 (len + 4) g2 c2 w2.heap.size (sl zs) [P0, P1, P2] 0 ((w2.alloc (.cells #[.int .i64 P0, .int .i64 P1, .int .i64 P2] 3)).drew)) := by
    have b3 := ((Below.refl w2.heap.size w2).alloc (Nat.le_refl _) (.cells #[.int .i64 P0, .int .i64 P1, .int .i64 P2] 3)).drew
    refine hide ⟨⟨sl zs, own_keep (own_keep O1.out HB2.out) b3, hsl.out, sl_range zs hzr.out, by simp [turnE]⟩, hbs2.below b3 (Nat.le_refl _), ?_, HB1.out.trans ((HB2.out.mono HB1.out.size).trans (b3.mono (Nat.le_trans HB1.out.size hs2.out)))⟩
    intro i hi
    match i, hi with
    | 0, _ => simp
    | 1, _ => simp
    | 2, _ => simp
  have hg1 := World.ownsRow.lt O1.out g rfl
  have hg2 := World.ownsRow.lt ho2 g2 rfl
  have hgA : g ≠ w2.heap.size ∧ g ≠ g2 := by have := hs2.out; omega
  generalize ((w2.alloc (.cells #[.int .i64 P0, .int .i64 P1, .int .i64 P2] 3)).drew) = w3 at *
  generalize w2.heap.size = A at *
  clear ho2 hbs2 hg1 hg2
  go_wp2_with fail
  go_loopw [14] (fun m wr => ∃ M : Nat, M ≤ N + 1 ∧ m = .int .i64 M ∧ Hid (BitSt w g c1 (len + 4) g2 c2 A (sl zs) [P0, P1, P2] M wr)) (fun m _ => N + 1 - (intOf m).toNat)
  case atStart => exact ⟨0, by omega, rfl, hst⟩
  case round =>
    obtain ⟨M, hM, rfl, hS⟩ := hrel
    by_cases hlt : M < N + 1
    · obtain ⟨⟨ys, hys, hyl, hyb, hyn⟩, htt, hat, hbel⟩ := hS.out
      have hPl := pick3 P0 P1 P2 _ hQ0 hQ1 hQ2 M (by omega)
      obtain ⟨P, hPe⟩ : ∃ P, P = [P0, P1, P2].getD M 0 := ⟨_, rfl⟩
      rw [← hPe] at hPl
      have hys' : wr.ownsRow w.heap.size 5 1 (.slice (some ⟨g, 0, none⟩) (len + 4) c1) (len + 4) (bv ys) := by
        have := hys
        unfold Own at this
        rwa [hyl] at this
      have hA := hat M (by omega)
      rw [← hPe] at hA
      obtain ⟨z, hz⟩ : ∃ z, z = ys.getD (P / 8) 0 := ⟨_, rfl⟩
      have hcz : wr.cell? ⟨g, P / 8, none⟩ = some (.int .u8 z) := by
        have := hys'.cellAt (P / 8) (by omega)
        rw [this, hz]
        simp [bv, List.getD, List.getElem?_eq_getElem (show P / 8 < ys.length by omega)]
      have hfz := hys'.frozenAt (P / 8)
      have HN := hide (bitst_step hys' hyl hyb hyn htt hat hbel (show M < [P0, P1, P2].length by simp; omega) P hPe hPl hgA.1 hgA.2)
      rw [← hz] at HN
      clear hys hys' hyl hyb hyn htt hat hbel hz hPe
      go_wp2_with fail
      go_region
      go_wp2
      go_roundw
      case rel => exact ⟨M + 1, by omega, by go_num, HN⟩
      case measure => simp [intOf]; omega
    · have hMN : M = N + 1 := by omega
      subst hMN
      obtain ⟨⟨ys, hys, hyl, hyb, hyn⟩, htt, hat, hbel⟩ := hS.out
      have hfin := bits_final zs ys len hzr.out hzl.out hyl hyb P0 P1 P2 N hN3 hQ0 hQ1 hQ2 hl hyn
      obtain ⟨_, _, hv, _, _, hbs⟩ := own_at hys hyb (len + 4) hyl (by omega)
      cases hv
      have HT := hide htt
      have HBL := hide hbel
      have KS := hide hbs
      have hyb' := hide hyb
      clear hat hys hyl hyn htt hbel hS hbs hst hyb
      rcases hfin with he | ⟨hne, hng⟩
      · subst he
        go_wp2_with fail
        refine (open_seal g 0 (len + 4) c1 zs wr hzr.out (by rw [hzl.out]) (by omega) KS.out).mono ?_
        rintro e w4 ⟨v, rfl, ho, hb⟩
        obtain ⟨ao, cap2, rfl, hcv⟩ := own_conv ho hzr.out len hzl.out
        have hx := hcv.out w4 (Below.refl _ _)
        have hs := conv_bs (KS.out.below hb (Nat.le_refl _))
        have ht := conv_bs (HT.out.below hb (Nat.le_refl _))
        have HB4 := hide (HBL.out.trans (hb.mono HBL.out.size))
        have hq := conv_bs (H.out.below HB4.out (Nat.le_refl _))
        clear hb ho hcv
        go_wp2_with fail
        refine (awake_any _).mono ?_
        rintro e w5 ⟨rfl, hb⟩
        have HB6 := hide (HB4.out.trans (hb.mono HB4.out.size))
        clear hb
        go_wp2
        go_ret
        exact ⟨rfl, HB6.out⟩
      · have hse := str_eq ys (sl zs) hyb'.out (sl_range zs hzr.out)
        rw [decide_eq_false hne] at hse
        have HNG := hide hng
        clear hne hng
        go_wp2_with fail
        refine (open_long g 0 (len + 4) c1 ys wr len rfl (by omega) KS.out).mono ?_
        rintro e w4 ⟨hb, ⟨hgd, _⟩ | ⟨_, rfl⟩⟩
        · exact absurd hgd HNG.out
        have hs := conv_bs (KS.out.below hb (Nat.le_refl _))
        have ht := conv_bs (HT.out.below hb (Nat.le_refl _))
        have HB4 := hide (HBL.out.trans (hb.mono HBL.out.size))
        clear hb
        go_wp2_with fail
        refine (awake_any _).mono ?_
        rintro e w5 ⟨rfl, hb⟩
        have HB6 := hide (HB4.out.trans (hb.mono HB4.out.size))
        clear hb
        go_wp2
        go_ret
        exact ⟨rfl, HB6.out⟩

theorem bits_long (a0 : Option Addr) (len cap : Nat) (i j k n : Int) (w : World) (hl : 4088 < len) (hm : len ≤ 9223372036854775807) :
    Calls Try.prog 4 #[.slice a0 len cap, .int .i64 i, .int .i64 j, .int .i64 k, .int .i64 n] w fun e w' => e = .returned (.bool true) ∧ Below w.heap.size w w' := by
  go_enter Try.func4, Try.ntmps4
  go_wp2_with fail
  refine (awake_any _).mono ?_
  rintro e w1 ⟨rfl, hb⟩
  have HB := hide hb
  clear hb
  go_wp2
  go_ret
  exact ⟨rfl, HB.out⟩

theorem bits_walk (a0 : Option Addr) (len cap : Nat) (zs : List Int) (i j k n : Int) (w : World) (h : Bs w a0 len cap zs ∧ len ≤ 9223372036854775807) :
    Calls Try.prog 4 #[.slice a0 len cap, .int .i64 i, .int .i64 j, .int .i64 k, .int .i64 n] w fun e w' => e = .returned (.bool true) ∧ Below w.heap.size w w' := by
  rcases Nat.lt_or_ge 4088 len with hl | hl
  · exact bits_long a0 len cap i j k n w hl h.2
  · exact bits_core a0 len cap zs i j k n w hl h.1

end Go.Proofs.Ytfcakghegdaeoaa.Clep
