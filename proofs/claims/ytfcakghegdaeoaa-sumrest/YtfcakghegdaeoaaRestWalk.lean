/- SumRest, walked: it answers true. For any two texts. -/
import Derived.Test.YtfcakghegdaeoaaAwakeB
namespace Go.Proofs.Ytfcakghegdaeoaa.Clep
open Go.RowKit
set_option linter.unusedVariables false

theorem rest_long (a0 a1 : Option Addr) (len0 cap0 len1 cap1 : Nat) (w : World) (h : 2000 < len0 ∨ (len0 ≤ 2000 ∧ 2000 < len1)) (hm0 : len0 ≤ 9223372036854775807) (hm1 : len1 ≤ 9223372036854775807) :
    Calls Try.prog 3 #[.slice a0 len0 cap0, .slice a1 len1 cap1] w fun e w' => e = .returned (.bool true) ∧ Below w.heap.size w w' := by
  rcases h with h | ⟨h, h'⟩
  · go_enter Try.func3, Try.ntmps3
    go_wp2_with fail
    refine (awake_any _).mono ?_
    rintro e w1 ⟨rfl, hb⟩
    have HB := hide hb
    clear hb
    go_wp2
    go_ret
    exact ⟨rfl, HB.out⟩
  · go_enter Try.func3, Try.ntmps3
    go_wp2_with fail
    refine (awake_any _).mono ?_
    rintro e w1 ⟨rfl, hb⟩
    have HB := hide hb
    clear hb
    go_wp2
    go_ret
    exact ⟨rfl, HB.out⟩

theorem byteL_zeros : ByteL [0, 0, 0, 0] := by intro z hz; simp at hz; omega

set_option maxHeartbeats 800000 in
theorem rest_core (a0 a1 : Option Addr) (len0 cap0 len1 cap1 : Nat) (xs ys : List Int) (w : World) (hl0 : len0 ≤ 2000) (hl1 : len1 ≤ 2000) (h0 : Bs w a0 len0 cap0 xs) (h1 : Bs w a1 len1 cap1 ys) :
    Calls Try.prog 3 #[.slice a0 len0 cap0, .slice a1 len1 cap1] w fun e w' => e = .returned (.bool true) ∧ Below w.heap.size w w' := by
  have H0 := hide h0
  have H1 := hide h1
  have hx : Hid (ByteL xs) := hide (bs_range h0)
  have hy : Hid (ByteL ys) := hide (bs_range h1)
  have HX := hide (crc_sealed xs hx.out)
  have HY := hide (crc_sealed ys hy.out)
  have hl : Hid ((sl xs).length = len0 + 4) := hide (by rw [sl_len, h0.1])
  have hl' : Hid ((sl ys).length = len1 + 4) := hide (by rw [sl_len, h1.1])
  clear h0 h1
  go_enter Try.func3, Try.ntmps3
  go_wp2_with fail
  refine (seal_any a0 len0 cap0 xs w (by omega) H0.out).mono ?_
  rintro e w1 ⟨v1, rfl, ho1, hb1⟩
  obtain ⟨g1, c1, rfl, hc1, hc1', hbs1⟩ := own_at ho1 (sl_range xs hx.out) (len0 + 4) hl.out (by omega)
  have HB1 := hide hb1
  have K1 := hide hbs1
  clear hb1 hbs1 ho1
  go_wp2_with fail
  refine (seal_any a1 len1 cap1 ys w1 (by omega) (H1.out.below HB1.out (Nat.le_refl _))).mono ?_
  rintro e w2 ⟨v2, rfl, ho2, hb2⟩
  obtain ⟨g2, c2, rfl, hc2, hc2', hbs2⟩ := own_at ho2 (sl_range ys hy.out) (len1 + 4) hl'.out (by omega)
  have HB2 := hide hb2
  have K2 := hide hbs2
  have K1' := hide (K1.out.below HB2.out (Nat.le_refl _))
  have HB3 := hide (HB1.out.trans (HB2.out.mono HB1.out.size))
  clear hb2 hbs2 ho2
  go_wp2_with fail
  refine (of_any _ (len0 + 4) c1 (sl xs) _ (by omega) K1'.out).mono ?_
  rw [HX.out]
  rintro e w3 ⟨rfl, rfl⟩
  go_wp2_with fail
  refine (of_any _ (len1 + 4) c2 (sl ys) _ (by omega) K2.out).mono ?_
  rw [HY.out]
  rintro e w3 ⟨rfl, rfl⟩
  go_wp2_with fail
  refine (of_any _ (len0 + 4) c1 (sl xs) _ (by omega) K1'.out).mono ?_
  rw [HX.out]
  rintro e w3 ⟨rfl, rfl⟩
  go_wp2_with fail
  refine (of_any _ 4 4 [0, 0, 0, 0] _ (by omega) (bs_newL _ [0, 0, 0, 0] byteL_zeros _ rfl 4 rfl _)).mono ?_
  rintro e w4 ⟨rfl, rfl⟩
  generalize crc [0, 0, 0, 0] = C at *
  go_wp2_with fail
  refine (awake_any _).mono ?_
  rintro e w5 ⟨rfl, hb⟩
  have HB4 := HB3.out.alloc HB3.out.size (.cells #[Value.int IntKind.u8 0, Value.int IntKind.u8 0, Value.int IntKind.u8 0, Value.int IntKind.u8 0] 5)
  have HB6 := hide (HB4.trans (hb.mono HB4.size))
  clear hb HB4
  go_wp2
  go_ret
  exact ⟨rfl, HB6.out⟩

theorem rest_walk (a0 a1 : Option Addr) (len0 cap0 len1 cap1 : Nat) (xs ys : List Int) (w : World) (h0 : Bs w a0 len0 cap0 xs ∧ len0 ≤ 9223372036854775807) (h1 : Bs w a1 len1 cap1 ys ∧ len1 ≤ 9223372036854775807) :
    Calls Try.prog 3 #[.slice a0 len0 cap0, .slice a1 len1 cap1] w fun e w' => e = .returned (.bool true) ∧ Below w.heap.size w w' := by
  by_cases hl : len0 ≤ 2000 ∧ len1 ≤ 2000
  · exact rest_core a0 a1 len0 cap0 len1 cap1 xs ys w hl.1 hl.2 h0.1 h1.1
  · exact rest_long a0 a1 len0 cap0 len1 cap1 w (by omega) h0.2 h1.2

end Go.Proofs.Ytfcakghegdaeoaa.Clep
