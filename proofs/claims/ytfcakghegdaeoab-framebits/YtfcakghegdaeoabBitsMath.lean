/- Bits that are turned in a sealed text. No conditions but the kinds' own bounds. -/
import Derived.Test.YtfcakghegdaeoabAppend
import Derived.Test.YtfcakghegdaeoabMask
import Derived.Test.YtfcakghegdaeoabCrcText
namespace Go.Proofs.Ytfcakghegdaeoab.Clep
open Go.RowKit
set_option linter.unusedVariables false

/-- What the bits at the first m of the places come to. -/
def turnE (ps : List Nat) (m : Nat) : Nat := (ps.take m).foldl (fun e p => e ^^^ 2 ^ p) 0
theorem turnE_succ (ps : List Nat) (m : Nat) (h : m < ps.length) : turnE ps (m + 1) = turnE ps m ^^^ 2 ^ ps.getD m 0 := by
  unfold turnE
  rw [List.take_succ_eq_append_getElem h, List.foldl_append]
  simp [List.getD, List.getElem?_eq_getElem h]

theorem pick3 (P0 P1 P2 B : Nat) (h0 : P0 < B) (h1 : P1 < B) (h2 : P2 < B) : ∀ M, M < 3 → [P0, P1, P2].getD M 0 < B
  | 0, _ => h0
  | 1, _ => h1
  | 2, _ => h2
/-- How it stands behind m turns. -/
def BitSt (w : World) (g c1 L g2 c2 A : Nat) (s0 : List Int) (ps : List Nat) (m : Nat) (wr : World) : Prop :=
  (∃ ys, Own wr w.heap.size (.slice (some ⟨g, 0, none⟩) L c1) ys ∧ ys.length = L ∧ ByteL ys ∧ nn ys = nn s0 ^^^ turnE ps m) ∧ Bs wr (some ⟨g2, 0, none⟩) L c2 s0 ∧
    (∀ i, i < 3 → wr.cell? ⟨A, i, none⟩ = some (.int .i64 (ps.getD i 0 : Nat))) ∧ Below w.heap.size w wr

theorem turn_byte (z : Int) (r : Nat) (hz : 0 ≤ z ∧ z < 256) (hr : r < 8) : bits BinOp.xor IntKind.u8 z (2 ^ r % 256) = ((z.toNat ^^^ 2 ^ r : Nat) : Int) := by
  obtain ⟨Z, rfl⟩ := Int.eq_ofNat_of_zero_le hz.1
  have h2 : (2 : Nat) ^ r < 2 ^ 8 := Nat.pow_lt_pow_right (by omega) (by omega)
  have e : (2 : Int) ^ r = ((2 ^ r : Nat) : Int) := by push_cast; rfl
  rw [e]
  generalize (2 : Nat) ^ r = T at *
  rw [show (T : Int) % 256 = (T : Int) from by omega, u8_xor_nat _ _ (by omega) (by omega)]
  rfl
theorem bv_flip (ys : List Int) (P : Nat) (hyb : ByteL ys) : (bv ys).set (P / 8) (.int .u8 (bits BinOp.xor IntKind.u8 (ys.getD (P / 8) 0) (2 ^ (P % 8) % 256))) = bv (flip ys P) := by
  rw [turn_byte _ _ (range_of hyb (P / 8)) (by omega)]
  unfold flip bv
  rw [List.map_set]

theorem bitst_step {w wr : World} {g c1 L g2 c2 A : Nat} {s0 : List Int} {ps : List Nat} {M : Nat} {ys : List Int} (hown : wr.ownsRow w.heap.size 5 1 (.slice (some ⟨g, 0, none⟩) L c1) L (bv ys)) (hyl : ys.length = L) (hyb : ByteL ys)
    (hyn : nn ys = nn s0 ^^^ turnE ps M) (htt : Bs wr (some ⟨g2, 0, none⟩) L c2 s0) (hat : ∀ i, i < 3 → wr.cell? ⟨A, i, none⟩ = some (.int .i64 (ps.getD i 0 : Nat))) (hbel : Below w.heap.size w wr)
    (hM : M < ps.length) (P : Nat) (hP : P = ps.getD M 0) (hPl : P < 8 * L) (hgA : g ≠ A) (hgg : g ≠ g2) :
    BitSt w g c1 L g2 c2 A s0 ps (M + 1) ((wr.setCell ⟨g, P / 8, none⟩ (.int .u8 (bits BinOp.xor IntKind.u8 (ys.getD (P / 8) 0) (2 ^ (P % 8) % 256)))).drew) := by
  obtain ⟨h1, h2⟩ := hown.stored (P / 8) (.int .u8 (bits BinOp.xor IntKind.u8 (ys.getD (P / 8) 0) (2 ^ (P % 8) % 256)))
  rw [bv_flip ys P hyb] at h1
  refine ⟨⟨flip ys P, ?_, by rw [flip_len, hyl], flip_range ys P hyb, ?_⟩, ?_, ?_, ?_⟩
  · unfold Own
    rw [flip_len, hyl]
    exact h1.drew
  · rw [nn_flip ys P hyb (by rw [hyl]; exact hPl), hyn, turnE_succ ps M hM, ← hP, Nat.xor_assoc]
  · refine ⟨htt.1, htt.2.1, htt.2.2.1, fun h0 => ?_⟩
    obtain ⟨b, off, ho, hc⟩ := htt.2.2.2 h0
    refine ⟨b, off, ho, fun i hi => ?_⟩
    cases ho
    exact h2.cell (hc i hi) (by intro h; cases h; exact hgg rfl)
  · intro i hi
    exact h2.cell (hat i hi) (by intro h; cases h; exact hgA rfl)
  · exact (hbel.grown h2 hbel.size (fun k hk => by cases hk; exact (World.ownsRow.lt hown g rfl).1)).drew

/-- Up to three bits that were turned are found, or nothing was turned. -/
theorem bits_final (zs ys : List Int) (n : Nat) (hz : ByteL zs) (hn : zs.length = n) (hyl : ys.length = n + 4) (hyb : ByteL ys) (P0 P1 P2 N : Nat) (hN : N < 3) (h0 : P0 < 8 * (n + 4)) (h1 : P1 < 8 * (n + 4)) (h2 : P2 < 8 * (n + 4)) (hm : n ≤ 4088)
    (hyn : nn ys = nn (sl zs) ^^^ turnE [P0, P1, P2] (N + 1)) : ys = sl zs ∨ (ys ≠ sl zs ∧ ¬ good ys n) := by
  subst hn
  have hgt := good_turn (sl zs) ys zs.length _ (sl_range zs hz) hyb (sl_len zs) hyl (good_sl zs hz) hyn
  have key : turnE [P0, P1, P2] (N + 1) = 0 ∨ it (8 * (zs.length + 4)) (turnE [P0, P1, P2] (N + 1)) ≠ 0 := by
    match N, hN with
    | 0, _ =>
      right
      have := bit_found _ P0 h0
      simpa [turnE] using this
    | 1, _ =>
      by_cases he : P0 = P1
      · left; subst he; simp [turnE]
      · right
        have := two_found _ P0 P1 h0 h1 (by omega) he
        simpa [turnE] using this
    | 2, _ =>
      right
      have := three_found _ P0 P1 P2 h0 h1 h2
      simpa [turnE] using this
  rcases key with k | k
  · left
    rw [k, Nat.xor_zero] at hyn
    exact nn_inj _ _ (by rw [hyl, sl_len]) hyb (sl_range zs hz) hyn
  · right
    refine ⟨fun e => ?_, fun g => k (hgt.1 g)⟩
    rw [e] at hyn
    have h3 := congrArg (nn (sl zs) ^^^ ·) hyn
    simp only [← Nat.xor_assoc, Nat.xor_self, Nat.zero_xor] at h3
    exact k (by rw [← h3, it_zero])

end Go.Proofs.Ytfcakghegdaeoab.Clep
