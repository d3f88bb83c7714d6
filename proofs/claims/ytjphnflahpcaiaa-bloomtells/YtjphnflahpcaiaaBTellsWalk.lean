/- BloomTells, the walk over the translated program: for any numbers, rows and bytes. No conditions. -/
import Derived.Test.YtjphnflahpcaiaaBTellsFew
import Derived.Test.YtjphnflahpcaiaaBTellsMany
namespace Go.Proofs.Ytjphnflahpcaiaa.Clep
open Go.RowKit
set_option linter.unusedVariables false

theorem tells_any (n b : Int) (a2 : Option Addr) (len2 cap2 : Nat) (zss : List (List Int)) (a3 : Option Addr) (len3 cap3 : Nat) (qs : List Int) (w : World) (hm2 : len2 ≤ 9223372036854775807) (h2 : Bss w a2 len2 cap2 zss) (hm3 : len3 ≤ 9223372036854775807) (h3 : Bs w a3 len3 cap3 qs) :
    Calls Try.prog 5 #[.int .i64 n, .int .i64 b, .slice a2 len2 cap2, .slice a3 len3 cap3] w fun e w' => e = .returned (.bool true) ∧ Below w.heap.size w w' := by
  cases hok : szOk n b with
  | false => exact tells_bad n b a2 len2 cap2 a3 len3 cap3 w hok
  | true =>
    simp only [szOk, Bool.and_eq_true, decide_eq_true_eq] at hok
    obtain ⟨N, rfl⟩ := Int.eq_ofNat_of_zero_le (show 0 ≤ n by omega)
    obtain ⟨B, rfl⟩ := Int.eq_ofNat_of_zero_le (show 0 ≤ b by omega)
    by_cases hle : len2 ≤ 40
    · exact tells_few N B a2 len2 cap2 zss a3 len3 cap3 qs w (by omega) (by omega) hle hm2 h2 hm3 h3
    · exact tells_many N B a2 len2 cap2 zss a3 len3 cap3 qs w (by omega) (by omega) (by omega) hm2 h2 hm3 h3

end Go.Proofs.Ytjphnflahpcaiaa.Clep
