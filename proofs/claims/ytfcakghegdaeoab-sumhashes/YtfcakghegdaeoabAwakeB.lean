/- What the statements' own function awake (sums of texts) answers when called: true, in new memory alone. No conditions. -/
import Derived.Test.YtfcakghegdaeoabLits
import Derived.Test.YtfcakghegdaeoabHash
namespace Go.Proofs.Ytfcakghegdaeoab.Clep
open Go.RowKit
set_option linter.unusedVariables false

set_option maxHeartbeats 800000 in
theorem awake_any (w : World) : Calls Try.prog 9 #[] w fun e w' => e = .returned (.bool true) ∧ Below w.heap.size w w' := by
  have hx : ByteL [120] := by intro z hz; simp at hz; omega
  have h9 : ByteL [49, 50, 51, 52, 53, 54, 55, 56, 57] := by intro z hz; simp at hz; omega
  obtain ⟨w0, hc1, hb0, hbs0⟩ := conv_const w [120] hx #[.int .u8 120] rfl 1 rfl
  go_enter Try.func9, Try.ntmps9
  go_wp2_with fail
  refine (seal_any _ 1 1 [120] _ (by omega) hbs0.out).mono ?_
  rintro e w1 ⟨v, rfl, ho, hb⟩
  obtain ⟨g, cap, rfl, hc1, hc2, hbs⟩ := own_at ho (sl_range [120] hx) 5 rfl (by omega)
  have HB := hide hb
  clear hb ho
  go_wp2_with fail
  refine (open_seal g 0 5 cap [120] w1 hx rfl (by omega) hbs).mono ?_
  rintro e w2 ⟨v, rfl, ho, hb2⟩
  obtain ⟨ao, cap2, rfl, hcv⟩ := own_conv ho hx 1 rfl
  have HB2 := hide hb2
  obtain ⟨w3, hc9, hb3, hbs3⟩ := conv_const w2 _ h9 #[.int .u8 49, .int .u8 50, .int .u8 51, .int .u8 52, .int .u8 53, .int .u8 54, .int .u8 55, .int .u8 56, .int .u8 57] rfl 9 rfl
  have hc := hcv.out _ hb3.out
  rw [show strOfNums [120] = ⟨#[120]⟩ from by decide +kernel] at hc
  clear hb2 ho hbs
  go_wp2_with fail
  refine (of_any _ 9 9 [49, 50, 51, 52, 53, 54, 55, 56, 57] _ (by omega) hbs3.out).mono ?_
  rw [show crc [49, 50, 51, 52, 53, 54, 55, 56, 57] = 3808858755 from by decide +kernel]
  rintro e w4 ⟨rfl, rfl⟩
  go_wp2_with fail
  refine (of_any none 0 0 [] _ (by omega) (bs_nil _)).mono ?_
  rw [show crc [] = 0 from by decide +kernel]
  rintro e w5 ⟨rfl, rfl⟩
  go_wp2_with fail
  refine (hash_any none 0 0 [] _ (by omega) (bs_nil _)).mono ?_
  rw [show fnv [] = 14695981039346656037 from rfl]
  rintro e w6 ⟨rfl, rfl⟩
  go_wp2
  go_ret
  refine ⟨rfl, ?_⟩
  have b2 := hb0.out.trans (HB.out.mono hb0.out.size)
  have b3 := b2.trans (HB2.out.mono b2.size)
  exact b3.trans (hb3.out.mono b3.size)

end Go.Proofs.Ytfcakghegdaeoab.Clep
