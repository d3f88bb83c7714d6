/- What the statements' own function awake (records) answers when called: true, in new memory alone. No conditions. -/
import Derived.Test.YtfcakghegdaeoabFMath
namespace Go.Proofs.Ytfcakghegdaeoab.Clep
open Go.RowKit
set_option linter.unusedVariables false

set_option maxHeartbeats 400000 in
theorem awakeC_any (w : World) : Calls Try.prog 12 #[] w fun e w' => e = .returned (.bool true) ∧ Below w.heap.size w w' := by
  have hy : ByteL [] := by intro z hz; cases hz
  have e1 := fr_ce 1 [] [] (by omega) (by omega) (by simp) hy
  have e2 := fr_kd 1 [] []
  have e3 := fr_ln 1 [] [] (by simp)
  have e4 := fr_bo 1 [] [] (by simp)
  have er := fr_range 1 [] (by omega) (by omega) (by simp) hy
  have el := fr_len 1 []
  simp only [List.append_nil, List.length_nil] at e1 e2 e3 e4 el
  have E1 := hide e1
  have E2 := hide e2
  have E3 := hide e3
  have E4 := hide e4
  have ER := hide er
  have EL := hide el
  clear e1 e2 e3 e4 er el
  go_enter Try.func12, Try.ntmps12
  go_wp2_with fail
  refine (fput_any none none 0 0 0 0 [] [] 1 w (by omega) (by omega) (by omega) (by omega) (bs_nil w) (bs_nil w)).mono ?_
  rintro e w1 ⟨v1, rfl, ho1, hb1⟩
  obtain ⟨g, c, rfl, -, -, hbs⟩ := own_at ho1 ER.out 12 EL.out (by omega)
  have HB1 := hide hb1
  have HS := hide hbs
  clear ho1 hb1 hbs
  go_wp2_with fail
  refine (ftake_good _ 12 c (fr 1 []) 0 w1 (by omega) HS.out (by omega) (fr 1 []) rfl E1.out).mono ?_
  rintro e w2 ⟨v2, rfl, ho2, hb2⟩
  rw [E2.out, E3.out]
  rw [E4.out] at ho2
  obtain ⟨ao, c2, rfl, -, -, -⟩ := own_bs ho2 (range_of hy)
  have HB2 := hide (HB1.out.trans (hb2.mono HB1.out.size))
  clear ho2 hb2
  go_wp2
  go_ret
  exact ⟨rfl, HB2.out⟩

end Go.Proofs.Ytfcakghegdaeoab.Clep
